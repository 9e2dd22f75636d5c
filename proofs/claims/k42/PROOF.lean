import PyProof.Rows.All
import Wide.All
import OpenK.AllK
import Wide.FinOn
import Lean
import PyProof.EqAt
import PyProof.EqKinds
import PyProof.TupleCall
import KE.BitLaws
import KE.KMinKey
import KE.KLam
import KE.KClos
import KE.KIntText
import KE.KRevIter
import KE.KDictList
import PySem.Challenge.RW_lampforge_k42_two_works_or_no_pair
open PySem.W (instObj methodObj lookIn plainGet hasDictIn plainGet_of isFn plainOver takerIn makesIn typeIn emptyDict keepIn specialIn kitx_list kitx_dict callWith_K fnOf codeIn tabObj noTabs isNs_of_in nsIn readsIn findCls tabIn mg_of mg_none_of behindTheImports boot_heap boot_drawn boot_toks segRunT piecesOf piece_app segRun_of xlAt recOk kHook)
set_option genSizeOfSpec false
noncomputable section
set_option Elab.async false
set_option linter.all false
set_option maxRecDepth 100000
namespace L2
open PySem PySem.Spec PyProof.Rows
abbrev Key:=Sum Int Str
def keyIs:Key->Value->Bool
 | .inl k,v=>Value.isInt k v
 | .inr x,v=>Value.isStrOf x v
def keyH(w:World):Key->Int
 | .inl k=>hashInt k
 | .inr x=>hashStr w x
theorem y_l:∀ {k:Key} {v:Value},keyIs k v=true->(∃ i t,k=Sum.inl i/\v=Value.int i t)\/(∃ x t,k=Sum.inr x/\v=Value.str x t)
 | .inl i,v,h=>by
  obtain ⟨t,e⟩:=Value.isInt_shape (k:=i) (v:=v) h
  exact .inl ⟨i,t,rfl,e⟩
 | .inr x,v,h=>by
  obtain ⟨t,e⟩:=Value.isStrOf_shape (x:=x) (v:=v) h
  exact .inr ⟨x,t,rfl,e⟩
theorem key_ll(a b:Int):decide ((Sum.inl a:Key)=Sum.inl b)=(a == b):=by
 by_cases e:a=b
 ·subst e;simp
 ·have h:¬(Sum.inl a:Key)=Sum.inl b:=fun q=>e (Sum.inl.inj q)
  rw [decide_eq_false h]
  exact (beq_eq_false_iff_ne.mpr e).symm
theorem key_rr(a b:Str):decide ((Sum.inr a:Key)=Sum.inr b)=decide (a=b):=by
 by_cases e:a=b
 ·subst e;simp
 ·have h:¬(Sum.inr a:Key)=Sum.inr b:=fun q=>e (Sum.inr.inj q)
  rw [decide_eq_false h,decide_eq_false e]
theorem key_lr(a:Int)(b:Str):decide ((Sum.inl a:Key)=Sum.inr b)=false:=decide_eq_false (fun q=>nomatch q)
theorem key_rl(a:Str)(b:Int):decide ((Sum.inr a:Key)=Sum.inl b)=false:=decide_eq_false (fun q=>nomatch q)
def mixKind(prog:Program)(w:World):PySem.KeyKind prog w Key where
 is:=keyIs
 hash:=keyH w
 inj:=fun v a b ha hb=>by
  rcases y_l ha with ⟨i,t,rfl,rfl⟩ | ⟨x,t,rfl,rfl⟩
  ·rcases y_l hb with ⟨j,u,rfl,e⟩ | ⟨y,u,rfl,e⟩
   ·injection e with e1 _;rw [e1]
   ·exact nomatch e
  ·rcases y_l hb with ⟨j,u,rfl,e⟩ | ⟨y,u,rfl,e⟩
   ·exact nomatch e
   ·injection e with e1 _;rw [e1]
 byValue:=fun k v h=>by
  rcases y_l h with ⟨i,t,rfl,rfl⟩ | ⟨x,t,rfl,rfl⟩<;>rfl
 pyHash:=fun hv h=>by
  rcases y_l hv with ⟨i,t,rfl,rfl⟩ | ⟨x,t,rfl,rfl⟩
  ·exact wpAny_pyHash_int h
  ·exact wpAny_pyHash_str h
 eqBool:=fun hu hv h=>by
  rcases y_l hu with ⟨i,t,rfl,rfl⟩ | ⟨x,t,rfl,rfl⟩
  ·rcases y_l hv with ⟨j,u,rfl,rfl⟩ | ⟨y,u,rfl,rfl⟩
   ·rw [key_ll] at h;exact wpAny_eqBool_int h
   ·rw [key_lr] at h;exact SeqAt.EqAt.int_str i t y u _ _ _ _ h
  ·rcases y_l hv with ⟨j,u,rfl,rfl⟩ | ⟨y,u,rfl,rfl⟩
   ·rw [key_rl] at h;exact SeqAt.EqAt.str_int x t j u _ _ _ _ h
   ·rw [key_rr] at h;exact wpAny_eqBool_str h
 «strs» := fun k x t v h=>by
  rcases y_l h with ⟨i,u,rfl,e⟩ | ⟨y,u,rfl,e⟩
  ·exact nomatch e
  ·injection e with e1 _
   subst e1
   cases v<;>rfl
inductive V where
 | non | bl (b:Bool) | int (i:Int) | str (x:Str) | byt (b:Array UInt8) | flt (b:UInt64) | ref (a:Addr) | ty (n:String)
 deriving DecidableEq
def RelV:V->Value->Prop
 | .non,u=>u=Value.none
 | .bl b,u=>u=Value.bool b
 | .int i,u=>∃ t,u=Value.int i t
 | .str x,u=>∃ t,u=Value.str x t
 | .byt b,u=>∃ t,u=Value.bytes b t
 | .flt b,u=>∃ t,u=Value.float b t
 | .ref a,u=>u=Value.ref a
 | .ty n,u=>u=Value.type n
abbrev Vals:List V->List Value->Prop:=Paired RelV
theorem Vals.length{xs:List V}{us:List Value}(r:Vals xs us):xs.length=us.length:=Paired.length r
theorem Vals.get:∀ {xs:List V} {us:List Value} {i:Nat} {x:V},Vals xs us->xs[i]? = some x->∃ u,us[i]? = some u/\RelV x u
 | _,_,_,_,.nil,e=>by simp at e
 | _,_,0,_,.cons r _,e=>by simp at e;subst e;exact ⟨_,rfl,r⟩
 | _,_,i+1,x,.cons _ t,e=>by
  obtain ⟨u,h1,h2⟩:=Vals.get (i:=i) (x:=x) t (by simpa using e)
  exact ⟨u,by simpa using h1,h2⟩
theorem Vals.set{x:V}{u:Value}(r:RelV x u):∀ {xs:List V} {us:List Value} (i:Nat),Vals xs us->Vals (xs.set i x) (us.set i u)
 | _,_,_,.nil=>.nil
 | _,_,0,.cons _ t=>.cons r t
 | _,_,i+1,.cons q t=>.cons q (Vals.set r i t)
theorem Vals.append:∀ {xs ys:List V} {us ws:List Value},Vals xs us->Vals ys ws->Vals (xs++ys) (us++ws)
 | _,_,_,_,.nil,s=>s
 | _,_,_,_,.cons r t,s=>.cons r (Vals.append t s)
theorem Vals.take:∀ {xs:List V} {us:List Value} (n:Nat),Vals xs us->Vals (xs.take n) (us.take n)
 | _,_,0,_=>.nil
 | _,_,_+1,.nil=>.nil
 | _,_,n+1,.cons r t=>.cons r (Vals.take n t)
theorem Vals.drop:∀ {xs:List V} {us:List Value} (n:Nat),Vals xs us->Vals (xs.drop n) (us.drop n)
 | _,_,0,r=>r
 | _,_,_+1,.nil=>.nil
 | _,_,n+1,.cons _ t=>Vals.drop n t
def RelO:Option V->Option Value->Prop
 | some v,some u=>RelV v u
 | none,none=>True
 | _,_=>False
def KV{κ:Type}:List (κ×V)->List (κ×Value)->Prop:=Paired fun (p:κ×V) (q:κ×Value)=>p.1=q.1/\RelV p.2 q.2
def kV:Key->V
 | .inl i=>.int i
 | .inr x=>.str x
inductive HO where
 | lst (xs:List V)
 | tup (xs:List V)
 | dK (kvs:List (Key×V)) | dT (kvs:List (List Key×V))
 | set (S:Int->Bool) (n:Nat)
 | ins (C dx:Addr) (fs:List (Str×V))
 | own (x:Addr)
 | xd (fs:List (Str×V))
 | met (f x:Addr)
 | rng (lo hi:Int)
 | frz (o:Obj) (u:HO)
 | tbl (pos:Pos) (qual:Str)
 | ext (φ:Heap->Prop)
abbrev Hp:=Addr->Option HO
def upd(H:Hp)(a:Addr)(o:HO):Hp:=fun b=>if b=a then some o else H b
theorem z_d{H:Hp}{a:Addr}{o:HO}:upd H a o a=some o:=by unfold upd;rw [if_pos rfl]
theorem z_m{H:Hp}{a b:Addr}{o:HO}(h:b≠a):upd H a o b=H b:=by unfold upd;rw [if_neg h]
theorem z_h{H:Hp}{a b:Addr}{o:HO}(h:H a=some o)(h':H b=none):a≠b:=by
 intro e;subst e;rw [h] at h';cases h'
section
variable (P:Program) (w:World)
def ObjOk(H:Hp)(h:Heap)(a:Addr):HO->Prop
 | .lst xs=>xs.length<=sizeLine/\∃ (its:List Value) (n:Nat),Vals xs its/\h.get? a=some { cls:=.type "list",data:=.seq its.toArray n }
 | .tup xs=>xs.length<=sizeLine/\∃ its:List Value,Vals xs its/\IsTup h a its.toArray
 | .dK kvs=>kvs.length<=sizeLine/\(a == sysModules)=false/\∃ vs,KV kvs vs/\h.DictOf (mixKind P w) a vs
 | .dT kvs=>kvs.length<=sizeLine/\(a == sysModules)=false/\∃ xs:List (List Key×Addr×Value),
   Paired (fun (p:List Key×V) (q:List Key×Addr×Value)=>p.1=q.1/\H q.2.1=some (.tup (p.1.map kV))/\RelV p.2 q.2.2) kvs xs /\
   ∃ o es ep,h.get? a=some o/\o.ExactDict/\o.data = .dict es ep/\es.toList=xs.map (entryOfKey (tupleKind (mixKind P w)))/\(xs.map (·.1)).Nodup
 | .set S n=>h.SetOf (intKind P w) a S n
 | .ins C dx fs=>H dx=some (.own a)/\fs.length<=1000/\dx≠a/\h.get? a=some (instObj C dx) /\
   ∃ mA,h.Ns1 dx mA/\(∀ f,RelO (fs.lookup f) (mA f))/\PySem.Within mA (fs.map (·.1))
 | .own _=>∃ o,h.get? a=some o
 | .xd fs=>∃ mA,h.Ns1 a mA/\∀ f,RelO (fs.lookup f) (mA f)
 | .rng lo hi=>∃ t u v,h.get? a=some { cls:=.type "range",data:=.fields #[.int lo t,.int hi u,.int 1 v] }
 | .frz o u=>h.get? a=some o/\ObjOk H h a u
 | .tbl pos qual=>∃ ps:Array Value,h.get? a=some { cls:=.none,data:=.fields ps }/\TriplesOk ps.toList/\(codeAmong pos ps.toList=none\/∃ c oc vs tq,codeAmong pos ps.toList=some (.ref c)/\H c=some (.frz oc (.own a))/\oc.data = .fields vs/\vs[1]? = some (.str qual tq))
 | .met f x=>h.get? a=some (methodObj (.ref f) (.ref x))
 | .ext φ=>φ h/\(∃ o,h.get? a=some o)/\∀ h1 h2:Heap,φ h1->(∀ o,h1.get? a=some o->h2.get? a=some o)->φ h2
def HOk(H:Hp)(h:Heap):Prop:=∀ a o,H a=some o->ObjOk P w H h a o
end
section
variable {P:Program} {w:World} {H H':Hp} {h h':Heap} {a:Addr} {o:HO}
theorem ObjOk.lt(x:ObjOk P w H h a o):a<h.objs.size:=by
 cases o with
 | lst xs=>obtain ⟨_,_,_,_,e⟩:=x;exact Heap.lt_size e
 | tup xs=>obtain ⟨_,_,_,p⟩:=x;exact p.lt
 | dK kvs=>obtain ⟨_,_,_,_,o,_,_,e,_⟩:=x;exact Heap.lt_size e
 | dT kvs=>obtain ⟨_,_,_,_,o,_,_,e,_⟩:=x;exact Heap.lt_size e
 | set S n=>obtain ⟨o,_,_,_,e,_⟩:=x;exact Heap.lt_size e
 | ins C dx fs=>obtain ⟨_,_,_,e,_⟩:=x;exact Heap.lt_size e
 | own y=>obtain ⟨_,e⟩:=x;exact Heap.lt_size e
 | xd fs=>obtain ⟨_,⟨_,_,_,e,_⟩,_⟩:=x;exact Heap.lt_size e
 | rng lo hi=>obtain ⟨_,_,_,e⟩:=x;exact Heap.lt_size e
 | frz ob u=>obtain ⟨e,_⟩:=x;exact Heap.lt_size e
 | tbl pos qual=>obtain ⟨_,e,_⟩:=x;exact Heap.lt_size e
 | met f y=>exact Heap.lt_size (show h.get? a=some _ from x)
 | ext φ=>obtain ⟨_,⟨_,e⟩,_⟩:=x;exact Heap.lt_size e
theorem Paired.mapP{α β:Type}{F G:α->β->Prop}:∀ {l₁:List α} {l₂:List β},Paired F l₁ l₂->(∀ a b,F a b->G a b)->Paired G l₁ l₂
 | _,_,.nil,_=>.nil
 | _,_,.cons r t,f=>.cons (f _ _ r) (Paired.mapP t f)
theorem ObjOk.stay(x:ObjOk P w H h a o)(k:∀ b u,(b=a\/H b=some (.own a))->h.get? b=some u->h'.get? b=some u)
  (ho:∀ b,H b=some (.own a)->H' b=some (.own a)) (ht:∀ b xs,H b=some (.tup xs)->H' b=some (.tup xs)) (hz:∀ b o u,H b=some (.frz o u)->H' b=some (.frz o u)):ObjOk P w H' h' a o:=by
 induction o with
 | lst xs=>obtain ⟨z,its,n,r,e⟩:=x;exact ⟨z,its,n,r,k _ _ (.inl rfl) e⟩
 | tup xs=>obtain ⟨z,its,r,ob,e,c⟩:=x;exact ⟨z,its,r,ob,k _ _ (.inl rfl) e,c⟩
 | dK kvs=>obtain ⟨z,y,vs,r,ob,es,ep,e,c⟩:=x;exact ⟨z,y,vs,r,ob,es,ep,k _ _ (.inl rfl) e,c⟩
 | dT kvs =>
  obtain ⟨z,y,xs,r,ob,es,ep,e,c⟩:=x
  exact ⟨z,y,xs,Paired.mapP r fun p q z=>⟨z.1,ht _ _ z.2.1,z.2.2⟩,ob,es,ep,k _ _ (.inl rfl) e,c⟩
 | set S n=>obtain ⟨ob,es,ep,t,e,c⟩:=x;exact ⟨ob,es,ep,t,k _ _ (.inl rfl) e,c⟩
 | ins C dx fs =>
  obtain ⟨d,z,ne,e,mA,⟨od,es,ep,e2,c⟩,r⟩:=x
  exact ⟨ho _ d,z,ne,k _ _ (.inl rfl) e,mA,⟨od,es,ep,k _ _ (.inr d) e2,c⟩,r⟩
 | own y=>obtain ⟨ob,e⟩:=x;exact ⟨ob,k _ _ (.inl rfl) e⟩
 | xd fs=>obtain ⟨mA,⟨od,es,ep,e,c⟩,r⟩:=x;exact ⟨mA,⟨od,es,ep,k _ _ (.inl rfl) e,c⟩,r⟩
 | rng lo hi=>obtain ⟨t,u,v,e⟩:=x;exact ⟨t,u,v,k _ _ (.inl rfl) e⟩
 | frz ob u ih=>obtain ⟨e,q⟩:=x;exact ⟨k _ _ (.inl rfl) e,ih q⟩
 | tbl pos qual =>
  obtain ⟨ps,e,t,c⟩:=x
  refine ⟨ps,k a _ (.inl rfl) e,t,?_⟩
  rcases c with c | ⟨c,oc,vs,tq,c1,c2,c3⟩
  ·exact .inl c
  ·exact .inr ⟨c,oc,vs,tq,c1,hz _ _ _ c2,c3⟩
 | met f y =>
  have e:h.get? a=some (methodObj (.ref f) (.ref y)):=x
  show h'.get? a=some (methodObj (.ref f) (.ref y))
  exact k a _ (.inl rfl) e
 | ext φ=>obtain ⟨p,⟨o,e⟩,st⟩:=x;exact ⟨st _ _ p fun o q=>k _ _ (.inl rfl) q,⟨o,k _ _ (.inl rfl) e⟩,st⟩
theorem HOk.lt(x:HOk P w H h)(e:H a=some o):a<h.objs.size:=(x a o e).lt
theorem HOk.fresh(x:HOk P w H h)(e:h.objs.size<=a):H a=none:=by
 cases q:H a with
 | none=>rfl
 | some u=>exact absurd (Nat.lt_of_lt_of_le (x.lt q) e) (Nat.lt_irrefl _)
theorem HOk.kept(x:HOk P w H h)(k:∀ b u,h.get? b=some u->h'.get? b=some u):HOk P w H h':=fun a o e =>
 (x a o e).stay (fun b u _ q=>k b u q) (fun _ q=>q) (fun _ _ q=>q) fun _ _ _ q=>q
theorem HOk.laid(x:HOk P w H h)(k:∀ b u,h.get? b=some u->h'.get? b=some u)(hp:h.objs.size<=a)(new:ObjOk P w (upd H a o) h' a o):HOk P w (upd H a o) h':=fun b u e=>by
 have hn:=x.fresh hp
 by_cases hb:b=a
 ·subst hb;rw [z_d] at e;cases e;exact new
 ·rw [z_m hb] at e
  exact (x b u e).stay (fun c v _ q=>k c v q) (fun c q=>by rw [z_m (z_h q hn)];exact q) (fun c xs q=>by rw [z_m (z_h q hn)];exact q) fun c ob xs q=>by rw [z_m (z_h q hn)];exact q
end
def Rd(H:Hp)(a:Addr)(u:HO):Prop:=H a=some u\/∃ o,H a=some (.frz o u)
theorem Rd.ok{P:Program}{w:World}{H:Hp}{h:Heap}{a:Addr}{u:HO}(r:Rd H a u)(x:HOk P w H h):ObjOk P w H h a u:=by
 rcases r with r | ⟨o,r⟩
 ·exact x a u r
 ·obtain ⟨_,q⟩:=x a _ r
  exact q
def Mut:Option HO->Prop
 | some (.lst _)=>True
 | some (.dK _)=>True
 | some (.dT _)=>True
 | some (.set _ _)=>True
 | some (.ins _ _ _)=>True
 | some (.ext _)=>True
 | _=>False
section
variable {P:Program} {w:World} {H:Hp} {h h':Heap} {x e:Addr} {o':HO}
theorem HOk.write(ok:HOk P w H h)(mu:Mut (H x))(he:e=x\/H e=some (.own x))(k:∀ b u,b≠e->h.get? b=some u->h'.get? b=some u)(heo:∃ u,h'.get? e=some u)
  (new:ObjOk P w (upd H x o') h' x o'):HOk P w (upd H x o') h':=fun b u q=>by
 have nown:∀ c y,H c=some (.own y)->c≠x:=fun c y r z=>by subst z;rw [r] at mu;exact mu
 have ntup:∀ c xs,H c=some (.tup xs)->c≠x:=fun c xs r z=>by subst z;rw [r] at mu;exact mu
 by_cases hb:b=x
 ·subst hb;rw [z_d] at q;cases q;exact new
 ·rw [z_m hb] at q
  by_cases hbe:b=e
  ·have q':H b=some (.own x):=by
    rcases he with z | z
    ·exact absurd (hbe.trans z) hb
    ·rw [hbe];exact z
   rw [q] at q';cases q'
   obtain ⟨v,hv⟩:=heo
   exact ⟨v,by rw [hbe];exact hv⟩
  ·refine (ok b u q).stay (fun c v hc r=>k c v ?_ r) (fun c r=>by rw [z_m (nown c b r)];exact r) (fun c xs r=>by rw [z_m (ntup c xs r)];exact r) fun c ob xs r=>by rw [z_m (fun z=>by subst z;rw [r] at mu;exact mu)];exact r
   rcases hc with rfl | hc
   ·exact hbe
   ·rintro rfl
    rcases he with z | z
    ·exact nown c b hc z
    ·rw [hc] at z;cases z;exact hb rfl
end
structure Un(fs ex:List Addr)(H H':Hp)(h h':Heap):Prop where
 keep:∀ b o,h.get? b=some o->H b=none->b∉fs->b∉ex->h'.get? b=some o
 slot:∀ b o,h.get? b=some o->H b=none->b∈fs->b∉ex->∃ sl,h'.get? b=some { o with slots:=sl }
 free:∀ b o,h.get? b=some o->H b=none->b∉ex->H' b=none
 there:∀ b o,h.get? b=some o->b∉ex->∃ o',h'.get? b=some o'
 tups:∀ b xs,H b=some (.tup xs)->H' b=some (.tup xs)
 frzs:∀ b o u,H b=some (.frz o u)->H' b=some (.frz o u)
 tbls:∀ b p q,H b=some (.tbl p q)->H' b=some (.tbl p q)
section
variable {fs fs' ex ex':List Addr} {H H1 H2:Hp} {h h1 h2 h':Heap} {a x e:Addr} {o:HO}
theorem Un.any(u:Un fs ex H H1 h h1){b:Addr}{ob:Obj}(q:h.get? b=some ob)(n:H b=none)(hx:b∉ex):∃ sl,h1.get? b=some { ob with slots:=sl }:=by
 by_cases hb:b∈fs
 ·exact u.slot b ob q n hb hx
 ·exact ⟨ob.slots,u.keep b ob q n hb hx⟩
theorem Un.kept(k:∀ b u,h.get? b=some u->h'.get? b=some u):Un fs ex H H h h' :=
 ⟨fun b ob q _ _ _=>k b ob q,fun b ob q _ _ _=>⟨ob.slots,k b ob q⟩,fun _ _ _ n _=>n,fun b ob q _=>⟨ob,k b ob q⟩,fun _ _ q=>q,fun _ _ _ q=>q,fun _ _ _ q=>q⟩
theorem Un.refl:Un fs ex H H h h:=Un.kept fun _ _ q=>q
theorem Un.laid(k:∀ b u,h.get? b=some u->h'.get? b=some u)(hp:h.objs.size<=a)(hn:H a=none):Un fs ex H (upd H a o) h h' where
 keep:=fun b u q _ _ _=>k b u q
 slot:=fun b u q _ _ _=>⟨u.slots,k b u q⟩
 free:=fun b u q n _=>by rw [z_m (Nat.ne_of_lt (Nat.lt_of_lt_of_le (Heap.lt_size q) hp))];exact n
 there:=fun b u q _=>⟨u,k b u q⟩
 tups:=fun b xs q=>by rw [z_m (z_h q hn)];exact q
 frzs:=fun b u xs q=>by rw [z_m (z_h q hn)];exact q
 tbls:=fun b p q z=>by rw [z_m (z_h z hn)];exact z
theorem Un.write(mu:Mut (H x))(he:e=x\/H e=some (.own x))(k:∀ b u,b≠e->h.get? b=some u->h'.get? b=some u)(heo:∃ u,h'.get? e=some u):Un fs ex H (upd H x o) h h':=by
 have hx:∀ b,H b=none->b≠x:=fun b n z=>by subst z;rw [n] at mu;exact mu
 have hb:∀ b,H b=none->b≠e:=fun b n z=>by
  subst z
  rcases he with r | r
  ·exact hx b n r
  ·rw [n] at r;cases r
 have hm:∀ b u,H b=some u->¬Mut (some u)->b≠x:=fun b u q nm z=>by subst z;rw [q] at mu;exact nm mu
 refine ⟨fun b u q n _ _=>k b u (hb b n) q,fun b u q n _ _=>⟨u.slots,k b u (hb b n) q⟩,fun b u q n _=>by rw [z_m (hx b n)];exact n,fun b u q _=>?_,
  fun b xs q=>by rw [z_m (hm b _ q fun z=>z)];exact q,fun b u xs q=>by rw [z_m (hm b _ q fun z=>z)];exact q,fun b p q z=>by rw [z_m (hm b _ z fun y=>y)];exact z⟩
 by_cases hbe:b=e
 ·subst hbe;exact heo
 ·exact ⟨u,k b u hbe q⟩
end
def trk(h:Heap)(H:Hp):List Addr:=(List.range h.objs.size).filter fun a=>(H a).isSome
def hidT(h:Heap)(H:Hp):Heap:=PySem.W.hideAll h (trk h H)
theorem l_l(h:Heap)(H:Hp):(hidT h H).objs.size=h.objs.size:=PySem.W.hideAll_size _ _
theorem hidT_get{h:Heap}{H:Hp}{b:Addr}{o:Obj}(e:h.get? b=some o)(n:H b=none):(hidT h H).get? b=some o :=
 PySem.W.hideAll_get _ e fun hm=>by
  have q:(H b).isSome=true:=(List.mem_filter.mp hm).2
  rw [n] at q;simp at q
theorem of_hidT{h:Heap}{H:Hp}{b:Addr}{o:Obj}(e:(hidT h H).get? b=some o):h.get? b=some o/\H b=none:=by
 have e':h.get? b=some o:=PySem.W.of_hideAll (trk h H) e
 refine ⟨e',?_⟩
 cases q:H b with
 | none=>rfl
 | some x =>
  have hm:b∈trk h H:=List.mem_filter.mpr ⟨List.mem_range.mpr (Heap.lt_size e'),by simp [q]⟩
  have z:(hidT h H).get? b=none:=PySem.W.hideAll_none (trk h H) hm
  rw [z] at e;cases e
open PySem PySem.Spec PyProof.Rows
structure Mod(K:PySem.W.Frag)(mg:Str->Option Value)(base:Heap):Prop where
 kin:K.In base
 glob:base.Ns mainGlobals mg
 blt:∃ mb,base.Ns builtinsNs mb/\∀ x:Str,x ≠ "__name__" -> mb x=bootBuiltins x
 nolimit:base.NoLimit
structure Cx where
 prog:Program
 w:World
 K:PySem.W.Frag
 mg:Str->Option Value
 base:Heap
 A:Around
 N:List Str
 s₀:Shared
 H₀:Hp
 env:Env
 outer:List Env
 stack:List Env
 ex:List Addr
 fn:Str->Bool
 calm:Bool
 pn:List (Addr×Obj)
 xe:Value->Shared->Prop
def frs(l:List Env):List Addr:=l.filterMap (·.frame)
abbrev Cx.fs(X:Cx):List Addr:=frs X.outer
def Vis(sc:Scope)(x:Str):Prop:=sc.names.lookup x=some .local\/sc.names.lookup x=some .cell\/sc.names.lookup x=some .free
def Loc(sc:Scope)(x:Str):Prop:=sc.names.lookup x=some .local\/sc.names.lookup x=some .cell
def Look(env:Env)(h:Heap)(m:Str->Option Value)(x:Str)(u:Value):Prop :=
 (env.kindOf x=some .local/\m x=some u)\/((env.kindOf x=some .cell\/env.kindOf x=some .free)/\∃ c,env.cells.lookup x=some c/\h.IsCell c (some u))
structure Cx.Ok(X:Cx):Prop where
 mod:Mod X.K X.mg X.base
 kind:X.env.scope.kind = .function
 glob:X.env.globals=mainGlobals
 blt:X.env.builtins=builtinsNs
 above:X.s₀.heap.objs.size<=X.env.locals
 inj:∀ x y c,X.env.cells.lookup x=some c->X.env.cells.lookup y=some c->x=y
 has:∀ x,(X.env.kindOf x=some .cell\/X.env.kindOf x=some .free)->∃ c,X.env.cells.lookup x=some c
 cab:∀ x c,X.fn x=true->X.env.cells.lookup x=some c->X.s₀.heap.objs.size<=c
 hd:X.calm=true->X.A.handled=none
 frames:X.A.frames=some X.stack
 gd:X.A.guards=some []
 stk:X.stack=X.outer\/(X.stack=X.env::X.outer/\X.env.frame=some X.env.locals)
 exf:∀ b∈X.ex,b≠X.env.locals/\∀ x c,X.env.cells.lookup x=some c->c≠b
 bs:∀ b o,X.base.get? b=some o->X.s₀.heap.get? b=some o/\X.H₀ b=none
 bsz:X.base.objs.size<=X.s₀.heap.objs.size
 noex:∀ b o,X.base.get? b=some o->b∉X.ex
 exfs:∀ b∈X.ex,b∉X.fs
 funs:X.s₀.heap.FunFrames X.base X.outer
 frf:∀ b∈X.fs,X.H₀ b=none
structure Inv(X:Cx)(pins:List (Addr×Obj))(σ:List (Option V))(H:Hp)(s:Shared):Prop where
 ok:X.Ok
 os:s.os=X.s₀.os
 bare:AllBare s.gens
 base:Un X.fs X.ex X.H₀ H X.s₀.heap s.heap
 loc:∃ m,s.heap.Ns X.env.locals m/\∀ (i:Nat) (x:Str) (v:V),X.N[i]? = some x->σ[i]? = some (some v)->Vis X.env.scope x->∃ u,RelV v u/\Look X.env s.heap m x u
 cell:∀ x c,X.env.cells.lookup x=some c->∃ v,s.heap.IsCell c v
 free:H X.env.locals=none
 freeC:∀ x c,X.env.cells.lookup x=some c->H c=none
 pin:∀ p∈X.pn++pins,s.heap.get? p.1=some p.2/\H p.1=none/\p.1≠X.env.locals/\p.1∉X.fs/\∀ v,p.2.data ≠ .cell v
 hok:HOk X.prog X.w H s.heap
 len:σ.length=X.N.length
section
variable {X:Cx} {pins:List (Addr×Obj)} {σ:List (Option V)} {H H':Hp} {s:Shared} {h':Heap}
theorem Cx.Ok.nofr(ok:X.Ok){b:Addr}{o:Obj}(e:X.base.get? b=some o):b∉X.fs:=fun hb=>by
 have:=(ok.funs.mem hb).1
 rw [e] at this;cases this
theorem Inv.bs(I:Inv X pins σ H s):∀ b o,X.base.get? b=some o->s.heap.get? b=some o/\H b=none:=fun b o e =>
 ⟨I.base.keep b o (I.ok.bs b o e).1 (I.ok.bs b o e).2 (I.ok.nofr e) (I.ok.noex b o e),I.base.free b o (I.ok.bs b o e).1 (I.ok.bs b o e).2 (I.ok.noex b o e)⟩
theorem Inv.bk(I:Inv X pins σ H s):∀ b o,X.base.get? b=some o->s.heap.get? b=some o:=fun b o e=>(I.bs b o e).1
theorem Inv.mod(I:Inv X pins σ H s):Mod X.K X.mg X.base:=I.ok.mod
theorem Inv.kIn(I:Inv X pins σ H s):X.K.In s.heap:=I.ok.mod.kin.keeps I.bk
theorem Inv.lt(I:Inv X pins σ H s):X.env.locals<s.heap.objs.size:=let ⟨_,hn,_⟩:=I.loc;hn.lt
theorem Inv.sz(I:Inv X pins σ H s):X.s₀.heap.objs.size<=s.heap.objs.size:=Nat.le_trans I.ok.above (Nat.le_of_lt I.lt)
theorem Inv.nofs(I:Inv X pins σ H s){a:Addr}(h:s.heap.objs.size<=a):a∉X.fs:=fun hb=>by
 obtain ⟨_,o,ho,_⟩:=I.ok.funs.mem hb
 exact absurd (Nat.lt_of_lt_of_le (Heap.lt_size ho) (Nat.le_trans I.sz h)) (Nat.lt_irrefl _)
theorem Inv.cne(I:Inv X pins σ H s):∀ x c,X.env.cells.lookup x=some c->c≠X.env.locals:=fun x c e z=>by
 obtain ⟨v,o,ho,hd⟩:=I.cell x c e
 obtain ⟨m,⟨o',es,ep,ho',hd',_⟩,_⟩:=I.loc
 rw [z,ho'] at ho;cases ho;rw [hd'] at hd;cases hd
theorem Inv.funs(I:Inv X pins σ H s):s.heap.FunFrames X.base X.outer:=by
 have all:∀ (l:List Env),(∀ b∈frs l,b∈X.fs)->X.s₀.heap.FunFrames X.base l->s.heap.FunFrames X.base l:=by
  intro l
  induction l with
  | nil=>intro _ _;trivial
  | cons env r ih =>
   intro hs hl
   obtain ⟨hk,⟨L,o,hf,hn,ho,hd⟩,hr⟩:=hl
   have hL:L∈X.fs:=hs L (by unfold frs;rw [List.filterMap_cons,hf];exact List.mem_cons_self)
   obtain ⟨sl,e⟩:=I.base.slot L o ho (I.ok.frf L hL) hL fun z=>I.ok.exfs L z hL
   exact ⟨hk,⟨L,_,hf,hn,e,hd⟩,ih (fun b hb=>hs b (by unfold frs;rw [List.filterMap_cons,hf];exact List.mem_cons_of_mem _ hb)) hr⟩
 exact all X.outer (fun _ hb=>hb) I.ok.funs
theorem Inv.stack(I:Inv X pins σ H s):s.heap.FunFrames X.base X.stack:=by
 rcases I.ok.stk with e | ⟨e,hf⟩
 ·rw [e];exact I.funs
 ·rw [e]
  obtain ⟨m,hn,_⟩:=I.loc
  refine .cons (by rw [I.ok.kind];decide) hf hn ?_ I.funs
  exact Heap.get?_none_of_le (Nat.le_trans I.ok.bsz I.ok.above)
theorem Inv.stkSub(I:Inv X pins σ H s):∀ b∈frs X.stack,b∈X.env.locals::X.fs:=fun b hb=>by
 rcases I.ok.stk with e | ⟨e,hf⟩
 ·rw [e] at hb;exact List.mem_cons_of_mem _ hb
 ·rw [e] at hb
  unfold frs at hb
  rw [List.filterMap_cons,hf] at hb
  exact hb
theorem Inv.stkFree(I:Inv X pins σ H s):∀ b∈frs X.stack,H b=none:=fun b hb=>by
 rcases List.mem_cons.mp (I.stkSub b hb) with e | hb
 ·rw [e];exact I.free
 ·obtain ⟨_,o,ho,_⟩:=I.ok.funs.mem hb
  exact I.base.free b o ho (I.ok.frf b hb) fun z=>I.ok.exfs b z hb
theorem Inv.step{g':Array GenState}{t':Nat}{d':Drawn}{ch:List Addr}(I:Inv X pins σ H s)
  (hch:∀ b∈ch,(b∈X.ex\/X.s₀.heap.objs.size<=b)/\b≠X.env.locals/\(∀ x c,X.env.cells.lookup x=some c->c≠b)/\∀ p∈X.pn++pins,p.1≠b)
  (keep:∀ b o,b≠X.env.locals->b∉X.fs->b∉ch->s.heap.get? b=some o->H b=none->h'.get? b=some o)
  (slot:∀ b o,b≠X.env.locals->b∈X.fs->b∉ch->s.heap.get? b=some o->H b=none->∃ sl,h'.get? b=some { o with slots:=sl }) (free:∀ b o,b∉ch->s.heap.get? b=some o->H b=none->H' b=none)
  (there:∀ b o,b∉ch->s.heap.get? b=some o->∃ o',h'.get? b=some o')
  (tups:∀ b xs,H b=some (.tup xs)->H' b=some (.tup xs)) (frzs:∀ b o u,H b=some (.frz o u)->H' b=some (.frz o u)) (tbls:∀ b p q,H b=some (.tbl p q)->H' b=some (.tbl p q))
  (ns:∀ m,s.heap.Ns X.env.locals m->h'.Ns X.env.locals m) (hok:HOk X.prog X.w H' h') (hg:AllBare g') :
  Inv X pins σ H' { s with heap:=h',gens:=g',drawn:=d',toks:=t' }:=by
 have neL:∀ b o,X.s₀.heap.get? b=some o->b≠X.env.locals:=fun b o e=>Nat.ne_of_lt (Nat.lt_of_lt_of_le (Heap.lt_size e) I.ok.above)
 have neC:∀ b o,X.s₀.heap.get? b=some o->b∉X.ex->b∉ch:=fun b o e hx hb=>by
  rcases (hch b hb).1 with z | z
  ·exact hx z
  ·exact absurd (Nat.lt_of_lt_of_le (Heap.lt_size e) z) (Nat.lt_irrefl _)
 have cellK:∀ x c,X.env.cells.lookup x=some c->∀ v,s.heap.IsCell c v->h'.IsCell c v:=fun x c e v ⟨o,ho,hd⟩=>by
  have nch:c∉ch:=fun z=>(hch c z).2.2.1 x c e rfl
  by_cases hc:c∈X.fs
  ·obtain ⟨sl,q⟩:=slot c o (I.cne x c e) hc nch ho (I.freeC x c e)
   exact ⟨_,q,hd⟩
  ·exact ⟨o,keep c o (I.cne x c e) hc nch ho (I.freeC x c e),hd⟩
 refine ⟨I.ok,I.os,hg,⟨fun b o e n hb hx=>?_,fun b o e n hb hx=>?_,fun b o e n hx=>?_,fun b o e hx=>?_,fun b xs e=>tups b xs (I.base.tups b xs e),fun b o xs e=>frzs b o xs (I.base.frzs b o xs e),fun b p q e=>tbls b p q (I.base.tbls b p q e)⟩,?_,fun x c e=>?_,?_,fun x c e=>?_,fun p hp=>?_,hok,I.len⟩
 ·exact keep b o (neL b o e) hb (neC b o e hx) (I.base.keep b o e n hb hx) (I.base.free b o e n hx)
 ·obtain ⟨sl,e1⟩:=I.base.slot b o e n hb hx
  obtain ⟨sl',e2⟩:=slot b _ (neL b o e) hb (neC b o e hx) e1 (I.base.free b o e n hx)
  exact ⟨sl',e2⟩
 ·obtain ⟨o',e1⟩:=I.base.there b o e hx
  exact free b o' (neC b o e hx) e1 (I.base.free b o e n hx)
 ·obtain ⟨o',e1⟩:=I.base.there b o e hx
  exact there b o' (neC b o e hx) e1
 ·obtain ⟨m,hn,hl⟩:=I.loc
  refine ⟨m,ns m hn,fun i x v e1 e2 e3=>?_⟩
  obtain ⟨u,r,l⟩:=hl i x v e1 e2 e3
  refine ⟨u,r,?_⟩
  rcases l with l | ⟨k,c,e,z⟩
  ·exact .inl l
  ·exact .inr ⟨k,c,e,cellK x c e _ z⟩
 ·obtain ⟨v,z⟩:=I.cell x c e
  exact ⟨v,cellK x c e v z⟩
 ·obtain ⟨m,⟨o,_,_,ho,_⟩,_⟩:=I.loc
  exact free _ o (fun z=>(hch _ z).2.1 rfl) ho I.free
 ·obtain ⟨v,o,ho,hd⟩:=I.cell x c e
  exact free c o (fun z=>(hch c z).2.2.1 x c e rfl) ho (I.freeC x c e)
 ·obtain ⟨e,n,ne,nf,d⟩:=I.pin p hp
  have nch:p.1∉ch:=fun z=>(hch p.1 z).2.2.2 p hp rfl
  exact ⟨keep p.1 p.2 ne nf nch e n,free p.1 p.2 nch e n,ne,nf,d⟩
theorem Inv.un{t':Nat}(I:Inv X pins σ H s)(u:Un X.fs [] H H' s.heap h')(hok:HOk X.prog X.w H' h'):Inv X pins σ H' { s with heap:=h',toks:=t' }:=by
 obtain ⟨m,⟨o,es,ep,ho,r⟩,_⟩:=id I.loc
 obtain ⟨sl,hL⟩:=u.any ho I.free (by simp)
 exact I.step (g':=s.gens) (d':=s.drawn) (ch:=[]) (fun _ z=>nomatch z) (fun b o _ hb _ e n=>u.keep b o e n hb (by simp)) (fun b o _ hb _ e n=>u.slot b o e n hb (by simp)) (fun b o _ e n=>u.free b o e n (by simp)) (fun b o _ e=>u.there b o e (by simp)) u.tups u.frzs u.tbls (fun m' hm=>by
  obtain ⟨o',es',ep',ho',r'⟩:=hm
  rw [ho] at ho';cases ho'
  exact ⟨_,es',ep',hL,r'⟩) hok I.bare
theorem Inv.call{g':Array GenState}{t':Nat}{d':Drawn}{ch:List Addr}(I:Inv X pins σ H s)(u:Un (frs X.stack) ch H H' s.heap h')(hok:HOk X.prog X.w H' h')(hg:AllBare g')
  (hch:∀ b∈ch,(b∈X.ex\/X.s₀.heap.objs.size<=b)/\b≠X.env.locals/\(∀ x c,X.env.cells.lookup x=some c->c≠b)/\∀ p∈X.pn++pins,p.1≠b) :
  Inv X pins σ H' { s with heap:=h',gens:=g',drawn:=d',toks:=t' }:=by
 obtain ⟨m,⟨o,es,ep,ho,r⟩,_⟩:=id I.loc
 obtain ⟨sl,hL⟩:=u.any ho I.free fun z=>(hch _ z).2.1 rfl
 exact I.step (ch:=ch) hch (fun b o hL hb hc e n=>u.keep b o e n (fun z=>(List.mem_cons.mp (I.stkSub b z)).elim hL hb) hc) (fun b o _ _ hc e n=>u.any e n hc) (fun b o hc e n=>u.free b o e n hc) (fun b o hc e=>u.there b o e hc) u.tups u.frzs u.tbls (fun m' hm=>by
  obtain ⟨o',es',ep',ho',r'⟩:=hm
  rw [ho] at ho';cases ho'
  exact ⟨_,es',ep',hL,r'⟩) hok hg
theorem Inv.turned{t':Nat}{it:Addr}(I:Inv X pins σ H s)(k:∀ b o,b≠it->s.heap.get? b=some o->h'.get? b=some o)(hn:H it=none)(hL:it≠X.env.locals)
  (h1:it∈X.ex\/X.s₀.heap.objs.size<=it) (h2:∀ x c,X.env.cells.lookup x=some c->c≠it) (h3:∀ p∈X.pn++pins,p.1≠it):Inv X pins σ H { s with heap:=h',toks:=t' }:=by
 have nit:∀ b u,H b=some u->b≠it:=fun b u e z=>by rw [z,hn] at e;cases e
 refine I.step (g':=s.gens) (d':=s.drawn) (ch:=[it]) (fun b hb=>?_) (fun b o _ _ hc e _=>k b o (fun z=>hc (by simp [z])) e) (fun b o _ _ hc e _=>⟨o.slots,k b o (fun z=>hc (by simp [z])) e⟩) (fun _ _ _ _ n=>n)
  (fun b o hc e=>⟨o,k b o (fun z=>hc (by simp [z])) e⟩) (fun _ _ e=>e) (fun _ _ _ e=>e) (fun _ _ _ e=>e) (fun m hm=>?_) (fun b u e=>?_) I.bare
 ·have e:b=it:=by simpa using hb
  subst e
  exact ⟨h1,hL,h2,h3⟩
 ·obtain ⟨o,es,ep,ho,r⟩:=hm
  exact ⟨o,es,ep,k _ o (Ne.symm hL) ho,r⟩
 ·refine (I.hok b u e).stay (fun c v hc q=>k c v ?_ q) (fun _ q=>q) (fun _ _ q=>q) fun _ _ _ q=>q
  rcases hc with z | z
  ·rw [z];exact nit b u e
  ·exact nit c _ z
theorem Inv.tok(I:Inv X pins σ H s)(t:Nat):Inv X pins σ H { s with toks:=t }:=I.un (h':=s.heap) (t':=t) Un.refl I.hok
theorem Inv.kept{t':Nat}(I:Inv X pins σ H s)(k:∀ b u,s.heap.get? b=some u->h'.get? b=some u):Inv X pins σ H { s with heap:=h',toks:=t' }:=I.un (Un.kept k) (I.hok.kept k)
theorem Inv.laid{a:Addr}{o:HO}{t':Nat}(I:Inv X pins σ H s)(k:∀ b u,s.heap.get? b=some u->h'.get? b=some u)(hp:s.heap.objs.size<=a)(new:ObjOk X.prog X.w (upd H a o) h' a o) :
  Inv X pins σ (upd H a o) { s with heap:=h',toks:=t' }:=I.un (Un.laid k hp (I.hok.fresh hp)) (I.hok.laid k hp new)
theorem Inv.write{x e:Addr}{o:HO}{t':Nat}(I:Inv X pins σ H s)(mu:Mut (H x))(he:e=x\/H e=some (.own x))(k:∀ b u,b≠e->s.heap.get? b=some u->h'.get? b=some u)(heo:∃ u,h'.get? e=some u)
  (new:ObjOk X.prog X.w (upd H x o) h' x o):Inv X pins σ (upd H x o) { s with heap:=h',toks:=t' }:=I.un (Un.write mu he k heo) (I.hok.write mu he k heo new)
theorem Inv.pins_of{pins':List (Addr×Obj)}(I:Inv X pins σ H s)(h:∀ p∈pins',s.heap.get? p.1=some p.2/\H p.1=none/\p.1≠X.env.locals/\p.1∉X.fs/\∀ v,p.2.data ≠ .cell v):Inv X pins' σ H s :=
 ⟨I.ok,I.os,I.bare,I.base,I.loc,I.cell,I.free,I.freeC,fun p hp=>(List.mem_append.mp hp).elim (fun z=>I.pin p (List.mem_append_left _ z)) (h p),I.hok,I.len⟩
theorem s_z{N:List Str}(hN:N.Nodup){i j:Nat}{x:Str}(a:N[i]? = some x)(b:N[j]? = some x):i=j:=by
 obtain ⟨h1,e1⟩:=List.getElem?_eq_some_iff.mp a
 obtain ⟨h2,e2⟩:=List.getElem?_eq_some_iff.mp b
 exact (List.getElem_inj hN).mp (e1.trans e2.symm)
theorem k_w{M:Model}{A:Around}{E:Value->Shared->Prop}{i:Nat}{x:Str}{v:V}{u:Value}{Q:Unit->Shared->Prop}(I:Inv X pins σ H s)(hN:X.N.Nodup)(hi:X.N[i]? = some x)(hx:Loc X.env.scope x)(r:RelV v u)
  (h:∀ s',Inv X pins (σ.set i (some v)) H s'->(∃ a,Heap.SameBut a s.heap s'.heap/\(a=X.env.locals\/X.env.cells.lookup x=some a))->Q () s') (hf:X.fn x=true\/X.env.scope.names.lookup x=some .local:=by first | exact .inl rfl | exact .inr rfl | assumption):wpAny M A (storeName X.env x u) Q E s:=by
 obtain ⟨m,hn,hl⟩:=id I.loc
 have hcls:(X.env.scope.kind == .class || (X.env.scope.kind == .module&&X.env.locals != X.env.globals))=false:=by rw [I.ok.kind];rfl
 have hiσ:i<σ.length:=by rw [I.len];exact (List.getElem?_eq_some_iff.mp hi).1
 have cne:=I.cne
 have tracked:∀ {a:Addr} {h':Heap},(∃ o,s.heap.get? a=some o/\H a=none)->Heap.SameBut a s.heap h'->HOk X.prog X.w H h':=fun {a h'} ha hs b ob e=>by
  obtain ⟨_,_,hfree⟩:=ha
  refine (I.hok b ob e).stay (fun c w' hc q=>(hs.2 c ?_).trans q) (fun _ q=>q) (fun _ _ q=>q) fun _ _ _ q=>q
  rintro rfl
  rcases hc with rfl | hc
  ·rw [hfree] at e;cases e
  ·rw [hfree] at hc;cases hc
 rcases hx with hk | hk
 ·refine wpAny_storeName_local hk hn (fun h' hn' hs=>?_) hcls
  obtain ⟨oL,_,_,hoL,_⟩:=id hn
  refine h _ ⟨I.ok,I.os,I.bare,⟨fun b o e n hb hx=>?_,fun b o e n hb hx=>?_,I.base.free,fun b o e hx=>?_,I.base.tups,I.base.frzs,I.base.tbls⟩,⟨_,hn',fun j y v' e1 e2 e3=>?_⟩,fun y c e=>?_,I.free,I.freeC,fun p hp=>?_,tracked ⟨oL,hoL,I.free⟩ hs,by simpa using I.len⟩ ⟨_,hs,.inl rfl⟩
  ·exact (hs.2 b (Nat.ne_of_lt (Nat.lt_of_lt_of_le (Heap.lt_size e) I.ok.above))).trans (I.base.keep b o e n hb hx)
  ·obtain ⟨sl,e1⟩:=I.base.slot b o e n hb hx
   exact ⟨sl,(hs.2 b (Nat.ne_of_lt (Nat.lt_of_lt_of_le (Heap.lt_size e) I.ok.above))).trans e1⟩
  ·obtain ⟨o',e1⟩:=I.base.there b o e hx
   exact ⟨o',(hs.2 b (Nat.ne_of_lt (Nat.lt_of_lt_of_le (Heap.lt_size e) I.ok.above))).trans e1⟩
  ·by_cases hj:j=i
   ·subst hj
    rw [hi] at e1;cases e1
    rw [List.getElem?_set_self hiσ] at e2
    cases e2
    exact ⟨u,r,.inl ⟨hk,by simp⟩⟩
   ·rw [List.getElem?_set_ne (Ne.symm hj)] at e2
    obtain ⟨u',r',q⟩:=hl j y v' e1 e2 e3
    refine ⟨u',r',?_⟩
    rcases q with ⟨k,e⟩ | ⟨k,c,e,z⟩
    ·refine .inl ⟨k,?_⟩
     have:y≠x:=fun e=>hj (s_z hN e1 (e▸hi))
     simp [this,e]
    ·exact .inr ⟨k,c,e,z.sameBut hs (cne y c e)⟩
  ·obtain ⟨w',z⟩:=I.cell y c e
   exact ⟨w',z.sameBut hs (cne y c e)⟩
  ·obtain ⟨e,n,ne,nf,d⟩:=I.pin p hp
   exact ⟨(hs.2 p.1 ne).trans e,n,ne,nf,d⟩
 ·have hfn:X.fn x=true:=by
   rcases hf with z | z
   ·exact z
   ·rw [z] at hk;cases hk
  obtain ⟨c,hc⟩:=I.ok.has x (.inl hk)
  obtain ⟨w',z⟩:=I.cell x c hc
  refine wpAny_storeName_cell I.ok.kind hk hc z (fun h' hc' hs=>?_)
  obtain ⟨oc,hoc,hocd⟩:=id z
  refine h { s with heap:=h' } ⟨I.ok,I.os,I.bare,⟨fun b o e n hb hx=>?_,fun b o e n hb hx=>?_,I.base.free,fun b o e hx=>?_,I.base.tups,I.base.frzs,I.base.tbls⟩,⟨m,hn.sameBut hs (Ne.symm (cne x c hc)),fun j y v' e1 e2 e3=>?_⟩,fun y c' e=>?_,I.free,I.freeC,fun p hp=>?_,tracked ⟨oc,hoc,I.freeC x c hc⟩ hs,by simpa using I.len⟩ ⟨c,hs,.inr hc⟩
  ·exact (hs.2 b (Nat.ne_of_lt (Nat.lt_of_lt_of_le (Heap.lt_size e) (I.ok.cab x c hfn hc)))).trans (I.base.keep b o e n hb hx)
  ·obtain ⟨sl,e1⟩:=I.base.slot b o e n hb hx
   exact ⟨sl,(hs.2 b (Nat.ne_of_lt (Nat.lt_of_lt_of_le (Heap.lt_size e) (I.ok.cab x c hfn hc)))).trans e1⟩
  ·obtain ⟨o',e1⟩:=I.base.there b o e hx
   exact ⟨o',(hs.2 b (Nat.ne_of_lt (Nat.lt_of_lt_of_le (Heap.lt_size e) (I.ok.cab x c hfn hc)))).trans e1⟩
  ·by_cases hj:j=i
   ·subst hj
    rw [hi] at e1;cases e1
    rw [List.getElem?_set_self hiσ] at e2
    cases e2
    exact ⟨u,r,.inr ⟨.inl hk,c,hc,hc'⟩⟩
   ·rw [List.getElem?_set_ne (Ne.symm hj)] at e2
    obtain ⟨u',r',q⟩:=hl j y v' e1 e2 e3
    refine ⟨u',r',?_⟩
    rcases q with q | ⟨k,c',e,z'⟩
    ·exact .inl q
    ·refine .inr ⟨k,c',e,z'.sameBut hs ?_⟩
     rintro rfl
     exact hj (s_z hN e1 (I.ok.inj _ _ _ e hc▸hi))
  ·by_cases hcc:c'=c
   ·subst hcc;exact ⟨_,hc'⟩
   ·obtain ⟨w2,z2⟩:=I.cell y c' e
    exact ⟨w2,z2.sameBut hs hcc⟩
  ·obtain ⟨e,n,ne,nf,d⟩:=I.pin p hp
   refine ⟨(hs.2 p.1 ?_).trans e,n,ne,nf,d⟩
   intro q
   rw [q,hoc] at e
   have q':oc=p.2:=Option.some.inj e
   exact d w' (by rw [<-q'];exact hocd)
theorem r_p{M:Model}{A:Around}{E:Value->Shared->Prop}{i:Nat}{x:Str}{v:V}{u:Value}{Q:Unit->Shared->Prop}(I:Inv X pins σ H s)(hN:X.N.Nodup)(hi:X.N[i]? = some x)(hx:Loc X.env.scope x)(r:RelV v u)
  (h:∀ s',Inv X pins (σ.set i (some v)) H s'->Q () s') (hf:X.fn x=true\/X.env.scope.names.lookup x=some .local:=by first | exact .inl rfl | exact .inr rfl | assumption):wpAny M A (storeName X.env x u) Q E s :=
 k_w I hN hi hx r (fun s' I' _=>h s' I') hf
theorem Inv.call'{s':Shared}{ch:List Addr}(I:Inv X pins σ H s)(ho:s'.os=s.os)(u:Un (frs X.stack) ch H H' s.heap s'.heap)(hok:HOk X.prog X.w H' s'.heap)(hg:AllBare s'.gens)
  (hch:∀ b∈ch,(b∈X.ex\/X.s₀.heap.objs.size<=b)/\b≠X.env.locals/\(∀ x c,X.env.cells.lookup x=some c->c≠b)/\∀ p∈X.pn++pins,p.1≠b):Inv X pins σ H' s':=by
 obtain ⟨h',g',d',t',o'⟩:=s'
 have e:o'=s.os:=ho
 subst e
 exact I.call (g':=g') (t':=t') (d':=d') u hok hg hch
end
abbrev XK:=Value->Option Addr->Hp->Prop
abbrev St:=List (Option V)
abbrev VK:=V->Hp->Prop
abbrev TE:=St->Hp->VK->Prop
abbrev TT:=St->Hp->(Bool->Hp->Prop)->Prop
abbrev TA:=St->Hp->(List V->Hp->Prop)->Prop
structure Ends where
 nx:St->Hp->Prop
 rt:VK
 bk:St->Hp->Prop:=fun _ _=>False
 ct:St->Hp->Prop:=fun _ _=>False
abbrev TS:=Ends->St->Hp->Prop
def EP(X:Cx)(pins:List (Addr×Obj))(σ:St)(Q:VK)(u:Value)(s':Shared):Prop:=∃ v H',Inv X pins σ H' s'/\RelV v u/\Q v H'
def TP(X:Cx)(pins:List (Addr×Obj))(σ:St)(Q:Bool->Hp->Prop)(b:Bool)(s':Shared):Prop:=∃ H',Inv X pins σ H' s'/\Q b H'
def AP(X:Cx)(pins:List (Addr×Obj))(σ:St)(Q:List V->Hp->Prop)(us:List Value)(s':Shared):Prop:=∃ vs H',Inv X pins σ H' s'/\Vals vs us/\Q vs H'
def SP(X:Cx)(pins:List (Addr×Obj))(D:Ends)(f:Flow)(s':Shared):Prop :=
 match f with
 | .next=>∃ σ' H',Inv X pins σ' H' s'/\D.nx σ' H'
 | .brk=>∃ σ' H',Inv X pins σ' H' s'/\D.bk σ' H'
 | .cont=>∃ σ' H',Inv X pins σ' H' s'/\D.ct σ' H'
 | .ret u=>∃ v σ' H',Inv X pins σ' H' s'/\RelV v u/\D.rt v H'
def PE(X:Cx)(e:Expr)(t:TE):Prop :=
 ∀ (pins:List (Addr×Obj)) (s:Shared) (σ:St) (H:Hp) (Q:VK),Inv X pins σ H s->t σ H Q->wpAny (model X.prog X.w) X.A (eval e X.env) (EP X pins σ Q) X.xe s
def PT(X:Cx)(e:Expr)(t:TT):Prop :=
 ∀ (pins:List (Addr×Obj)) (s:Shared) (σ:St) (H:Hp) (Q:Bool->Hp->Prop),Inv X pins σ H s->t σ H Q->wpAny (model X.prog X.w) X.A (isTrue e X.env (eval e X.env)) (TP X pins σ Q) X.xe s
def PW(X:Cx)(e:Expr)(t:TT):Prop :=
 ∀ (whole:Sem Value) (pins:List (Addr×Obj)) (s:Shared) (σ:St) (H:Hp) (Q:Bool->Hp->Prop),Inv X pins σ H s->t σ H Q->wpAny (model X.prog X.w) X.A (isTrue e X.env whole) (TP X pins σ Q) X.xe s
theorem PW.pt{X:Cx}{e:Expr}{t:TT}(h:PW X e t):PT X e t:=h _
def PA(X:Cx)(es:List Expr)(t:TA):Prop :=
 ∀ (pos:Pos) (pins:List (Addr×Obj)) (s:Shared) (σ:St) (H:Hp) (Q:List V->Hp->Prop),Inv X pins σ H s->t σ H Q->wpAny (model X.prog X.w) X.A (spliced (backTo pos (starEach es X.env))) (AP X pins σ Q) X.xe s
def PS(X:Cx)(st:Stmt)(t:TS):Prop :=
 ∀ (pins:List (Addr×Obj)) (s:Shared) (σ:St) (H:Hp) (D:Ends),Inv X pins σ H s->t D σ H->wpAny (model X.prog X.w) X.A (exec st X.env) (SP X pins D) X.xe s
def PSs(X:Cx)(st:List Stmt)(t:TS):Prop :=
 ∀ (pins:List (Addr×Obj)) (s:Shared) (σ:St) (H:Hp) (D:Ends),Inv X pins σ H s->t D σ H->wpAny (model X.prog X.w) X.A (execs st X.env) (SP X pins D) X.xe s
theorem thn{α:Type}{t:Sem α}{Q Q':α->Shared->Prop}{M:Model}{A:Around}{E:Value->Shared->Prop}{s:Shared}(h:wpAny M A t Q E s)(hQ:∀ a s,Q a s->Q' a s):wpAny M A t Q' E s:=wpAny_mono h hQ fun _ _ x=>x
open PySem PySem.Spec PyProof.Rows
section
variable {X:Cx}
def tVar(i:Nat):TE:=fun σ H Q=>∃ v,σ[i]? = some (some v)/\Q v H
def tC(v:V):TE:=fun _ H Q=>Q v H
theorem pe_var{i:Nat}{x:Str}{pos:Pos}(hN:X.N[i]? = some x)(hv:Vis X.env.scope x)(hd:(x == ("__debug__" : Str))=false:=by decide)(hcd:(x == ("__classdict__" : Str))=false:=by decide):PE X (.Name x pos) (tVar i):=by
 intro pins s σ H Q I h
 obtain ⟨v,e,h⟩:=h
 obtain ⟨m,hn,hl⟩:=I.loc
 obtain ⟨u,r,l⟩:=hl i x v hN e hv
 have fin:EP X pins σ Q u s:=⟨v,H,I,r,h⟩
 rcases l with ⟨hk,hm⟩ | ⟨hk,c,hc,hcell⟩
 ·exact wpAny_Name (wpAny_loadName_local I.ok.kind hk hn hm fin) hd
 ·rcases hk with hk | hk
  ·exact wpAny_Name (wpAny_loadName_cell I.ok.kind hk hc hcell fin) hd
  ·exact wpAny_Name (wpAny_loadName_free I.ok.kind hk hc hcell fin hcd) hd
theorem z_c{i j pos}:PE X (.Constant (.int i) j pos) (tC (.int i)):=fun _ _ _ H _ I h=>wpAny_Constant_int ⟨.int i,H,I.tok _,⟨_,rfl⟩,h⟩
theorem s_o{b j pos}:PE X (.Constant (.bool b) j pos) (tC (.bl b)):=fun _ _ _ H _ I h=>Constant_bool ⟨.bl b,H,I,rfl,h⟩
theorem k_e{j pos}:PE X (.Constant .none j pos) (tC .non):=fun _ _ _ H _ I h=>Constant_none ⟨.non,H,I,rfl,h⟩
theorem y_t{x j pos}:PE X (.Constant (.str x) j pos) (tC (.str x)):=fun _ _ _ H _ I h=>Calls.Constant_str ⟨.str x,H,I.tok _,⟨_,rfl⟩,h⟩
def Gl(X:Cx)(x:Str):Prop:=X.env.kindOf x=some .globalImplicit
theorem w_t{E:Value->Shared->Prop}{pins:List (Addr×Obj)}{s:Shared}{σ:St}{H:Hp}{x:Str}{u:Value}{pos:Pos}{Q:Value->Shared->Prop}(I:Inv X pins σ H s)(hg:Gl X x)(hm:X.mg x=some u)(h:Q u s)
  (hd:(x == ("__debug__" : Str))=false:=by decide):wpAny (model X.prog X.w) X.A (eval (.Name x pos) X.env) Q E s :=
 Calls.Name_function_global I.ok.kind hg (Calls.loadGlobal_global (by rw [I.ok.glob];exact I.mod.glob.keeps I.bk) hm h) hd
theorem v_o{E:Value->Shared->Prop}{pins:List (Addr×Obj)}{s:Shared}{σ:St}{H:Hp}{x:Str}{u:Value}{pos:Pos}{Q:Value->Shared->Prop}(I:Inv X pins σ H s)(hg:Gl X x)(hm:X.mg x=none)(hv:bootBuiltins x=some u)(h:Q u s)
  (hn:x ≠ "__name__" := by decide) (hd:(x == ("__debug__" : Str))=false:=by decide):wpAny (model X.prog X.w) X.A (eval (.Name x pos) X.env) Q E s:=by
 obtain ⟨mb,h1,h2⟩:=I.mod.blt
 exact Calls.Name_function_global I.ok.kind hg (Calls.loadGlobal_builtin (by rw [I.ok.glob];exact I.mod.glob.keeps I.bk) hm (by rw [I.ok.blt];exact h1.keeps I.bk) ((h2 x hn).trans hv) h) hd
theorem x_o{x:Str}{v:V}{u:Value}{pos:Pos}(hg:Gl X x)(hm:X.mg x=some u)(r:RelV v u)(hd:(x == ("__debug__" : Str))=false:=by decide):PE X (.Name x pos) (tC v) :=
 fun _ _ _ H _ I h=>w_t I hg hm ⟨v,H,I,r,h⟩ hd
theorem v_s{x:Str}{v:V}{u:Value}{pos:Pos}(hg:Gl X x)(hm:X.mg x=none)(hv:bootBuiltins x=some u)(r:RelV v u)(hn:x ≠ "__name__" := by decide)(hd:(x == ("__debug__" : Str))=false:=by decide):PE X (.Name x pos) (tC v) :=
 fun _ _ _ H _ I h=>v_o I hg hm hv ⟨v,H,I,r,h⟩ hn hd
variable {a b:Expr} {ta tb:TE} {pos:Pos}
variable {tA tB':TT} {rest:List Expr}
def tAnd(t u:TT):TT:=fun σ H Q=>t σ H fun c H1=>if c=true then u σ H1 Q else Q false H1
def tOr(t u:TT):TT:=fun σ H Q=>t σ H fun c H1=>if c=true then Q true H1 else u σ H1 Q
def tNot(t:TT):TT:=fun σ H Q=>t σ H fun c H1=>Q (!c) H1
theorem r_i(ha:PT X a tA):PW X (.BoolOp .And [a] pos) tA:=by
 intro wh pins s σ H Q I h
 refine isTrue_and (thn (ha pins s σ H Q I h) fun c s1 e=>?_)
 cases c with
 | true=>exact isTrue_and_nil e
 | false=>exact e
theorem q_r(ha:PT X a tA):PW X (.BoolOp .Or [a] pos) tA:=by
 intro wh pins s σ H Q I h
 refine isTrue_or (thn (ha pins s σ H Q I h) fun c s1 e=>?_)
 cases c with
 | false=>exact isTrue_or_nil e
 | true=>exact e
theorem o_z(ha:PT X a tA)(hb:PW X (.BoolOp .And (b::rest) pos) tB'):PW X (.BoolOp .And (a::b::rest) pos) (tAnd tA tB'):=by
 intro wh pins s σ H Q I h
 refine isTrue_and (thn (ha pins s σ H _ I h) fun c s1 ⟨H1,I1,q1⟩=>?_)
 cases c with
 | true=>exact hb wh pins s1 σ H1 Q I1 q1
 | false=>exact ⟨H1,I1,q1⟩
theorem m_h(ha:PT X a tA)(hb:PW X (.BoolOp .Or (b::rest) pos) tB'):PW X (.BoolOp .Or (a::b::rest) pos) (tOr tA tB'):=by
 intro wh pins s σ H Q I h
 refine isTrue_or (thn (ha pins s σ H _ I h) fun c s1 ⟨H1,I1,q1⟩=>?_)
 cases c with
 | true=>exact ⟨H1,I1,q1⟩
 | false=>exact hb wh pins s1 σ H1 Q I1 q1
theorem v_p(ha:PT X a tA):PT X (.UnaryOp .Not a pos) (tNot tA):=by
 intro pins s σ H Q I h
 exact isTrue_not (ha pins s σ H (fun c H1=>Q (!c) H1) I h)
def tAndV(ta tb:TE):TE:=fun σ H Q=>ta σ H fun x H1=>∃ c,x = .bl c/\if c=true then tb σ H1 Q else Q (.bl false) H1
def tOrV(ta tb:TE):TE:=fun σ H Q=>ta σ H fun x H1=>∃ c,x = .bl c/\if c=true then Q (.bl true) H1 else tb σ H1 Q
def tNotV(ta:TE):TE:=fun σ H Q=>ta σ H fun x H1=>∃ c,x = .bl c/\Q (.bl (!c)) H1
theorem o_y{op}{t:TE}(h:PE X a t):PE X (.BoolOp op [a] pos) t:=fun pins s σ H Q I hw=>BoolOp_one (h pins s σ H Q I hw)
theorem q_p(ha:PE X a ta)(hb:PE X (.BoolOp .And (b::rest) pos) tb):PE X (.BoolOp .And (a::b::rest) pos) (tAndV ta tb):=by
 intro pins s σ H Q I h
 refine BoolOp_and (thn (ha pins s σ H _ I h) fun v s1 ⟨x,H1,I1,r1,q1⟩=>?_)
 obtain ⟨c,rfl,q1⟩:=q1
 cases r1
 refine wpAny_truthy_bool ?_
 cases c with
 | true=>exact hb pins s1 σ H1 Q I1 q1
 | false=>exact ⟨.bl false,H1,I1,rfl,q1⟩
theorem pe_or(ha:PE X a ta)(hb:PE X (.BoolOp .Or (b::rest) pos) tb):PE X (.BoolOp .Or (a::b::rest) pos) (tOrV ta tb):=by
 intro pins s σ H Q I h
 refine BoolOp_or (thn (ha pins s σ H _ I h) fun v s1 ⟨x,H1,I1,r1,q1⟩=>?_)
 obtain ⟨c,rfl,q1⟩:=q1
 cases r1
 refine wpAny_truthy_bool ?_
 cases c with
 | false=>exact hb pins s1 σ H1 Q I1 q1
 | true=>exact ⟨.bl true,H1,I1,rfl,q1⟩
theorem pe_not(ha:PE X a ta):PE X (.UnaryOp .Not a pos) (tNotV ta):=by
 intro pins s σ H Q I h
 refine UnaryOp_ (thn (ha pins s σ H _ I h) fun v s1 ⟨x,H1,I1,r1,q1⟩=>?_)
 obtain ⟨c,rfl,q1⟩:=q1
 cases r1
 exact not_of (wpAny_truthy_bool ⟨.bl (!c),H1,I1,rfl,q1⟩)
end
open PySem PySem.Spec PyProof.Rows
def SqL(K:PySem.W.Frag)(H:Hp)(a:Addr)(xs:List V):Prop :=
 Rd H a (.lst xs) \/
  ∃ (o:Obj) (its:Array Value) (n:Nat),K.lookup a=some o/\o.cls = .type "list" /\ o.dict=none/\o.data = .seq its n/\its.size<=sizeLine/\Vals xs its.toList
def SqT(K:PySem.W.Frag)(H:Hp)(a:Addr)(xs:List V):Prop :=
 Rd H a (.tup xs) \/
  ∃ (o:Obj) (its:Array Value) (n:Nat),K.lookup a=some o/\o.cls = .type "tuple" /\ o.data = .seq its n/\its.size<=sizeLine/\Vals xs its.toList
def absV:Value->Option V
 | .none=>some .non
 | .bool b=>some (.bl b)
 | .int i _=>some (.int i)
 | .str x _=>some (.str x)
 | .bytes b _=>some (.byt b)
 | .float b _=>some (.flt b)
 | .ref a=>some (.ref a)
 | .type n=>some (.ty n)
 | _=>none
theorem RelV.abs{x:V}{u:Value}(r:RelV x u):absV u=some x:=by
 cases x with
 | non=>cases r;rfl
 | bl _=>cases r;rfl
 | int _=>obtain ⟨t,rfl⟩:=r;rfl
 | str _=>obtain ⟨t,rfl⟩:=r;rfl
 | byt _=>obtain ⟨t,rfl⟩:=r;rfl
 | flt _=>obtain ⟨t,rfl⟩:=r;rfl
 | ref _=>cases r;rfl
 | ty _=>cases r;rfl
theorem RelV.inj{x y:V}{u:Value}(r:RelV x u)(q:RelV y u):x=y:=Option.some.inj (r.abs.symm.trans q.abs)
theorem Vals.inj:∀ {xs ys:List V} {us:List Value},Vals xs us->Vals ys us->xs=ys
 | _,_,_,.nil,.nil=>rfl
 | _,_,_,.cons r t,.cons r' t'=>by rw [r.inj r',Vals.inj t t']
section
variable {X:Cx} {pins:List (Addr×Obj)} {σ:St} {H:Hp} {s:Shared} {a:Addr} {xs ys:List V}
theorem SqL.of{K:PySem.W.Frag}(h:H a=some (.lst xs)):SqL K H a xs:=.inl (.inl h)
theorem SqT.of{K:PySem.W.Frag}(h:H a=some (.tup xs)):SqT K H a xs:=.inl (.inl h)
theorem Inv.list(I:Inv X pins σ H s)(h:SqL X.K H a xs):∃ its:List Value,Vals xs its/\PlainL s.heap a its.toArray/\xs.length<=sizeLine:=by
 rcases h with h | ⟨o,its,n,hk,hc,hd,hs,hz,r⟩
 ·obtain ⟨z,its,n,r,e⟩:=h.ok I.hok
  exact ⟨its,r,⟨_,n,e,rfl,rfl,rfl⟩,z⟩
 ·refine ⟨its.toList,r,⟨o,n,I.kIn a o hk,hc,hd,by simpa using hs⟩,?_⟩
  have e:=r.length
  simp only [Array.length_toList] at e
  lia
theorem Inv.tuple(I:Inv X pins σ H s)(h:SqT X.K H a xs):∃ its:List Value,Vals xs its/\IsTup s.heap a its.toArray/\xs.length<=sizeLine:=by
 rcases h with h | ⟨o,its,n,hk,hc,hs,hz,r⟩
 ·obtain ⟨z,its,r,p⟩:=h.ok I.hok
  exact ⟨its,r,p,z⟩
 ·refine ⟨its.toList,r,⟨o,I.kIn a o hk,hc,n,by simpa using hs⟩,?_⟩
  have e:=r.length
  simp only [Array.length_toList] at e
  lia
theorem Inv.list_inj(I:Inv X pins σ H s)(h:SqL X.K H a xs)(h':SqL X.K H a ys):xs=ys:=by
 obtain ⟨its,r,⟨o,n,e,_,_,d⟩,_⟩:=I.list h
 obtain ⟨its',r',⟨o',n',e',_,_,d'⟩,_⟩:=I.list h'
 rw [e] at e';cases e'
 rw [d] at d'
 injection d' with d1 _
 have:its=its':=by simpa using congrArg Array.toList d1
 subst this
 exact r.inj r'
theorem Inv.tuple_inj(I:Inv X pins σ H s)(h:SqT X.K H a xs)(h':SqT X.K H a ys):xs=ys:=by
 obtain ⟨its,r,⟨o,e,_,n,d⟩,_⟩:=I.tuple h
 obtain ⟨its',r',⟨o',e',_,n',d'⟩,_⟩:=I.tuple h'
 rw [e] at e';cases e'
 rw [d] at d'
 injection d' with d1 _
 have:its=its':=by simpa using congrArg Array.toList d1
 subst this
 exact r.inj r'
end
abbrev Cx.wish(X:Cx)(E:Value->Shared->Prop):Cx:={ X with xe:=E }
abbrev Cx.nox(X:Cx):Cx:=X.wish fun _ _=>False
theorem Cx.Ok.wish{X:Cx}(ok:X.Ok)(E:Value->Shared->Prop):(X.wish E).Ok :=
 ⟨ok.mod,ok.kind,ok.glob,ok.blt,ok.above,ok.inj,ok.has,ok.cab,ok.hd,ok.frames,ok.gd,ok.stk,ok.exf,ok.bs,ok.bsz,ok.noex,ok.exfs,ok.funs,ok.frf⟩
theorem Cx.Ok.unwish{X:Cx}{E:Value->Shared->Prop}(ok:(X.wish E).Ok):X.Ok :=
 ⟨ok.mod,ok.kind,ok.glob,ok.blt,ok.above,ok.inj,ok.has,ok.cab,ok.hd,ok.frames,ok.gd,ok.stk,ok.exf,ok.bs,ok.bsz,ok.noex,ok.exfs,ok.funs,ok.frf⟩
section
variable {X:Cx} {pins:List (Addr×Obj)} {σ:St} {H:Hp} {s:Shared} {E:Value->Shared->Prop}
theorem Inv.wish(I:Inv X pins σ H s)(E:Value->Shared->Prop):Inv (X.wish E) pins σ H s:=⟨I.ok.wish E,I.os,I.bare,I.base,I.loc,I.cell,I.free,I.freeC,I.pin,I.hok,I.len⟩
theorem Inv.unwish(I:Inv (X.wish E) pins σ H s):Inv X pins σ H s:=⟨I.ok.unwish,I.os,I.bare,I.base,I.loc,I.cell,I.free,I.freeC,I.pin,I.hok,I.len⟩
theorem SP.unwish{D:Ends}{f:Flow}{s':Shared}(h:SP (X.wish E) pins D f s'):SP X pins D f s':=by
 cases f with
 | next=>obtain ⟨σ',H',I,q⟩:=h;exact ⟨σ',H',I.unwish,q⟩
 | brk=>obtain ⟨σ',H',I,q⟩:=h;exact ⟨σ',H',I.unwish,q⟩
 | cont=>obtain ⟨σ',H',I,q⟩:=h;exact ⟨σ',H',I.unwish,q⟩
 | ret u=>obtain ⟨v,σ',H',I,r,q⟩:=h;exact ⟨v,σ',H',I.unwish,r,q⟩
theorem PT.nox{e:Expr}{t:TT}(h:PT X.nox e t):PT X e t:=fun pins s σ H Q I hw =>
 wpAny_mono (h pins s σ H Q (I.wish _) hw) (fun _ _ ⟨H',I',q⟩=>⟨H',I'.unwish,q⟩) fun _ _ z=>False.elim z
theorem PSs.nox{st:List Stmt}{t:TS}(h:PSs X.nox st t):PSs X st t:=fun pins s σ H D I hw =>
 wpAny_mono (h pins s σ H D (I.wish _) hw) (fun _ _ q=>q.unwish) fun _ _ z=>False.elim z
end
section
variable {X:Cx} {st:Stmt} {rest:List Stmt} {t u:TS} {e:Expr} {te:TE} {pos:Pos}
def tNext:TS:=fun D σ H=>D.nx σ H
def tSeq(t u:TS):TS:=fun D σ H=>t { D with nx:=u D } σ H
theorem z_x:PSs X [] tNext:=fun _ _ σ H _ I h=>wpAny_execs_nil ⟨σ,H,I,h⟩
theorem z_e(h1:PS X st t)(h2:PSs X rest u):PSs X (st::rest) (tSeq t u):=by
 intro pins s σ H D I h
 refine wpAny_execs_cons (thn (h1 pins s σ H { D with nx:=u D } I h) fun f s1 q=>?_)
 cases f with
 | next =>
  obtain ⟨σ',H',I',q⟩:=q
  exact h2 pins s1 σ' H' D I' q
 | ret v=>exact q
 | brk=>exact q
 | cont=>exact q
theorem z_g(h1:PS X st t):PSs X [st] t:=by
 intro pins s σ H D I h
 refine wpAny_execs_cons (thn (h1 pins s σ H D I h) fun f s1 q=>?_)
 cases f with
 | next=>exact wpAny_execs_nil q
 | ret v=>exact q
 | brk=>exact q
 | cont=>exact q
theorem Inv.quiet{pins:List (Addr×Obj)}{σ:St}{H:Hp}{s:Shared}(I:Inv X pins σ H s):interactive X.env=false:=by simp [interactive,I.ok.kind]
def tDrop(te:TE):TS:=fun D σ H=>te σ H fun _ H1=>D.nx σ H1
theorem y_o(he:PE X e te)(hs:swapsWith e none pos.line X.env=pure false:=by rfl):PS X (.Expr e pos) (tDrop te):=by
 intro pins s σ H D I h
 exact wpAny_Expr_any (thn (he pins s σ H _ I h) fun v s1 ⟨x,H1,I1,r1,q1⟩=>⟨σ,H1,I1,q1⟩) I.quiet hs
def tRet(te:TE):TS:=fun D σ H=>te σ H D.rt
theorem z_r(he:PE X e te):PS X (.Return (some e) pos) (tRet te):=by
 intro pins s σ H D I h
 exact wpAny_Return_some (thn (he pins s σ H _ I h) fun v s1 ⟨x,H1,I1,r1,q1⟩=>⟨x,σ,H1,I1,r1,q1⟩)
def tIfS(c:TT)(t u:TS):TS:=fun D σ H=>c σ H fun b H1=>if b=true then t D σ H1 else u D σ H1
theorem x_d{c:Expr}{a b:List Stmt}{tc:TT}(hc:PT X c tc)(ha:PSs X a t)(hb:PSs X b u):PS X (.If c a b pos) (tIfS tc t u):=by
 intro pins s σ H D I h
 refine wpAny_If (thn (hc pins s σ H _ I h) fun d s1 ⟨H1,I1,q1⟩=>?_)
 cases d with
 | true=>exact ha pins s1 σ H1 D I1 q1
 | false=>exact hb pins s1 σ H1 D I1 q1
def tNever:TS:=fun _ _ _=>False
theorem t_d:PS X st tNever:=fun _ _ _ _ _ _ h=>h.elim
end
abbrev TG:=V->St->Hp->(St->Hp->Prop)->Prop
abbrev TGs:=List V->St->Hp->(St->Hp->Prop)->Prop
def PG(X:Cx)(target:Expr)(t:TG):Prop :=
 ∀ (pins:List (Addr×Obj)) (s:Shared) (σ:St) (H:Hp) (v:V) (u:Value) (Q:St->Hp->Prop),Inv X pins σ H s->RelV v u->t v σ H Q ->
  wpAny (model X.prog X.w) X.A (assign target X.env u) (fun _ s'=>∃ σ' H',Inv X pins σ' H' s'/\Q σ' H') X.xe s
def PGs(X:Cx)(ts:List Expr)(t:TGs):Prop :=
 ∀ (pins:List (Addr×Obj)) (s:Shared) (σ:St) (H:Hp) (vs:List V) (us:List Value) (Q:St->Hp->Prop),Inv X pins σ H s->Vals vs us->t vs σ H Q ->
  wpAny (model X.prog X.w) X.A (assignInOrder ((assignEach ts X.env).map (·.2)) us) (fun _ s'=>∃ σ' H',Inv X pins σ' H' s'/\Q σ' H') X.xe s
abbrev TSet:=V->V->V->Hp->(Hp->Prop)->Prop
def PSet(X:Cx)(t:TSet):Prop :=
 ∀ (pins:List (Addr×Obj)) (s:Shared) (σ:St) (H:Hp) (o i v:V) (ov iv u:Value) (Q:Hp->Prop),Inv X pins σ H s->RelV o ov->RelV i iv->RelV v u->t o i v H Q ->
  wpAny (model X.prog X.w) X.A (setItem ov iv u) (fun _ s'=>∃ H',Inv X pins σ H' s'/\Q H') X.xe s
section
variable {X:Cx} {pos:Pos}
def gName(i:Nat):TG:=fun v σ H Q=>Q (σ.set i (some v)) H
theorem z_q{i:Nat}{x:Str}(hN:X.N.Nodup)(hi:X.N[i]? = some x)(hx:Loc X.env.scope x)(hf:X.fn x=true\/X.env.scope.names.lookup x=some .local:=by first | exact .inl rfl | exact .inr rfl | assumption):PG X (.Name x pos) (gName i):=by
 intro pins s σ H v u Q I r h
 exact wpAny_assign_Name (r_p I hN hi hx r (fun s' I'=>⟨_,H,I',h⟩) hf)
def gNil:TGs:=fun vs σ H Q=>vs=[]/\Q σ H
def gCons(t:TG)(u:TGs):TGs:=fun vs σ H Q=>∃ v r,vs=v::r/\t v σ H fun σ' H'=>u r σ' H' Q
theorem y_v:PGs X [] gNil:=by
 intro pins s σ H vs us Q I r h
 obtain ⟨e,h⟩:=h
 subst e
 cases r
 exact assignInOrder_nil ⟨σ,H,I,h⟩
theorem z_p{e:Expr}{es:List Expr}{t:TG}{u:TGs}(h1:PG X e t)(h2:PGs X es u)
  (hs:(assignEach (e::es) X.env).map (·.2)=assign e X.env::(assignEach es X.env).map (·.2):=by rfl):PGs X (e::es) (gCons t u):=by
 intro pins s σ H vs us Q I r h
 obtain ⟨v,vr,e1,h⟩:=h
 subst e1
 cases r with
 | cons r rr =>
  rw [hs]
  refine assignInOrder_cons (thn (h1 pins s σ H _ _ _ I r h) fun _ s1 ⟨σ1,H1,I1,q1⟩=>?_)
  exact h2 pins s1 σ1 H1 _ _ Q I1 rr q1
def gTup(K:PySem.W.Frag)(n:Nat)(t:TGs):TG:=fun v σ H Q=>∃ a xs,v = .ref a/\SqT K H a xs/\xs.length=n/\t xs σ H Q
theorem pg_tup{es:List Expr}{k:Nat}{t:TGs}{n:Nat}(hc:X.calm=true)(h:PGs X es t)
  (hn:(assignEach es X.env).length=n:=by rfl) (hst:(assignEach es X.env).findIdx? (·.1)=none:=by rfl):PG X (.Tuple es k pos) (gTup X.K n t):=by
 intro pins s σ H v u Q I r hw
 obtain ⟨a,xs,e1,hq,hl,hw⟩:=hw
 subst e1
 cases r
 obtain ⟨its,rv,ht,hz⟩:=I.tuple hq
 refine assign_Tuple_tuple (I.ok.hd hc) ht (by simp [hn,<-hl,rv.length]) hst fun h' hx=>?_
 have I1:Inv X pins σ H { s with heap:=h' }:=I.kept (t':=s.toks) fun b o e=>hx b o (Nat.ne_of_lt (Heap.lt_size e)) e
 exact h pins _ σ H xs _ Q I1 (by simpa using rv) hw
def gSub(to ti:TE)(t:TSet):TG:=fun v σ H Q=>to σ H fun o H1=>ti σ H1 fun i H2=>t o i v H2 fun H3=>Q σ H3
theorem pg_sub{o i:Expr}{to ti:TE}{t:TSet}(ho:PE X o to)(hi:PE X i ti)(hs:PSet X t)
  (ha:∀ v,assign (.Subscript o i pos) X.env v=(do
   let ov <-holding [v] (eval o X.env)
   let iv <-holding [v,ov] (eval i X.env)
   standAt pos
   holding [v,ov,iv] (setItem ov iv v)
   release [v,ov,iv] []):=by intro _;rfl):PG X (.Subscript o i pos) (gSub to ti t):=by
 intro pins s σ H v u Q I r h
 rw [ha]
 refine wpAny_bind (wpAny_holding (thn (ho pins s σ H _ I h) fun ov s1 ⟨x,H1,I1,r1,q1⟩=>?_))
 refine wpAny_bind (wpAny_holding (thn (hi pins s1 σ H1 _ I1 q1) fun iv s2 ⟨y,H2,I2,r2,q2⟩=>?_))
 refine wpAny_bind (wpAny_standAt (wpAny_bind (wpAny_holding (thn (hs pins s2 σ H2 x y v ov iv u _ I2 r1 r2 r q2) fun _ s3 ⟨H3,I3,q3⟩=>?_))))
 exact wpAny_release ⟨σ,H3,I3,q3⟩
def tAsg(te:TE)(g:TG):TS:=fun D σ H=>te σ H fun x H1=>g x σ H1 D.nx
theorem ps_asg{tg e:Expr}{te:TE}{g:TG}(he:PE X e te)(hg:PG X tg g)(hs:swapsWithSole [tg] e pos.line X.env=pure false:=by rfl)(hw:swappedStores [tg] e X.env=pure none:=by rfl)
  (h1:(assignEach [tg] X.env).map (·.2)=[assign tg X.env]:=by rfl):PS X (.Assign [tg] e pos) (tAsg te g):=by
 intro pins s σ H D I h
 refine wpAny_Assign_stores (thn (he pins s σ H _ I h) fun v s1 ⟨x,H1,I1,r1,q1⟩=>?_) hs hw
 rw [h1]
 exact thn (hg pins s1 σ H1 x v _ I1 r1 q1) fun _ s2 q=>q
theorem z_z{i:Nat}{x:Str}{e:Expr}{te:TE}{pos':Pos}(hN:X.N.Nodup)(hi:X.N[i]? = some x)(hx:Loc X.env.scope x)(he:PE X e te)(hs:swapsWith e (some (.Name x pos')) pos.line X.env=pure false:=by rfl)(hf:X.fn x=true\/X.env.scope.names.lookup x=some .local:=by first | exact .inl rfl | exact .inr rfl | assumption) :
  PS X (.Assign [.Name x pos'] e pos) (tAsg te (gName i)):=by
 intro pins s σ H D I h
 refine wpAny_Assign_Name (thn (he pins s σ H _ I h) fun v s1 ⟨y,H1,I1,r1,q1⟩=>?_) hs
 exact r_p I1 hN hi hx r1 (fun s2 I2=>⟨_,H1,I2,q1⟩) hf
end
section
variable {X:Cx} {pos:Pos}
def tWhile(c:TT)(tb:TS):TS:=fun D σ H=>∃ W:Nat->St->Hp->Prop,(∃ m,W m σ H)/\∀ m σ H,W m σ H ->
 c σ H fun b H1=>if b=true then ∃ N:St->Hp->Prop,(∀ σ' H',N σ' H'->∃ m',m'<m/\W m' σ' H')/\tb { D with nx:=N,ct:=N,bk:=D.nx } σ H1 else D.nx σ H1
theorem ps_while{c:Expr}{body:List Stmt}{tc:TT}{tb:TS}(hp:PassesOwn (model X.prog X.w) X.A X.env X.xe)(hc:PT X c tc)(hb:PSs X body tb):PS X (.While c body [] pos) (tWhile tc tb):=by
 intro pins s σ H D I h
 obtain ⟨W,⟨m0,w0⟩,turn⟩:=h
 refine wpAny_While (codeAny_whileLoop (fun n s'=>∃ σ' H',Inv X pins σ' H' s'/\W n σ' H') ?_ m0 ⟨σ,H,I,w0⟩)
 rintro n s1 ⟨σ1,H1,I1,w1⟩
 refine wpAny_passesOwn hp (thn (hc pins s1 σ1 H1 _ I1 (turn n σ1 H1 w1)) fun b s2 ⟨H2,I2,q2⟩=>?_)
 cases b with
 | true =>
  obtain ⟨N,hN,q2⟩:=q2
  rw [if_pos rfl]
  refine wpAny_passesOwn hp (thn (hb pins s2 σ1 H2 _ I2 q2) fun f s3 q3=>?_)
  cases f with
  | next =>
   obtain ⟨σ3,H3,I3,n3⟩:=q3
   obtain ⟨m',hm,w3⟩:=hN σ3 H3 n3
   exact ⟨m',hm,σ3,H3,I3,w3⟩
  | cont =>
   obtain ⟨σ3,H3,I3,n3⟩:=q3
   obtain ⟨m',hm,w3⟩:=hN σ3 H3 n3
   exact ⟨m',hm,σ3,H3,I3,w3⟩
  | brk=>exact q3
  | ret v=>exact q3
 | false =>
  rw [if_neg Bool.false_ne_true]
  exact wpAny_execs_nil ⟨σ1,H2,I2,q2⟩
end
structure It where
 go:Nat->Hp->Prop
 yld:Nat->Hp->V->Hp->Prop
 stop:Nat->Hp->Prop
def FpOk(X:Cx)(pins:List (Addr×Obj))(H:Hp)(b:Addr):Prop :=
 H b=none/\b≠X.env.locals/\b∉X.fs/\(b∈X.ex\/X.s₀.heap.objs.size<=b)/\(∀ x c,X.env.cells.lookup x=some c->c≠b)/\∀ p∈X.pn++pins,p.1≠b
theorem Inv.fpOk{X:Cx}{pins:List (Addr×Obj)}{σ:St}{H H':Hp}{s:Shared}{b:Addr}(I:Inv X pins σ H s)(hb:s.heap.objs.size<=b)(hn:H' b=none):FpOk X pins H' b:=by
 refine ⟨hn,Nat.ne_of_gt (Nat.lt_of_lt_of_le I.lt hb),I.nofs hb,.inr (Nat.le_trans I.sz hb),fun x c e z=>?_,fun p hp z=>?_⟩
 ·obtain ⟨v,q⟩:=I.cell x c e
  exact absurd (Nat.lt_of_lt_of_le q.lt (by rw [z];exact hb)) (Nat.lt_irrefl _)
 ·exact absurd (Nat.lt_of_lt_of_le (Heap.lt_size (I.pin p hp).1) (by rw [z];exact hb)) (Nat.lt_irrefl _)
structure Turn(P:Program)(w:World)(K:PySem.W.Frag)(tg:Expr)(J:It)(fp:List Addr)(it:Addr)(tn:Nat->Heap->Prop):Prop where
 mem:it∈fp
 obj:∀ i h,tn i h->∀ b∈fp,∃ o,h.get? b=some o/\∀ v,o.data ≠ .cell v
 keep:∀ i h h',tn i h->(∀ b∈fp,∀ o,h.get? b=some o->h'.get? b=some o)->tn i h'
 item:∀ (X:Cx),X.prog=P->X.w=w->X.K=K->X.calm=true->∀ (i:Nat) (pins:List (Addr×Obj)) (s:Shared) (σ:St) (H:Hp) (E:Value->Shared->Prop),Inv X pins σ H s->(∀ b∈fp,FpOk X pins H b)->tn i s.heap->J.go i H ->
  wpAny (model P w) X.A (pyNext (.ref it)) (fun r s1=>∃ u,r=some u /\
   wpAny (model P w) X.A (letOwnedTupleGo tg (.ref it) u) (fun _ s2=>∃ x H',Inv X pins σ H' s2/\RelV x u/\J.yld i H x H'/\tn (i+1) s2.heap/\∀ b∈fp,H' b=none) E s1) E s
 done:∀ (X:Cx),X.prog=P->X.w=w->X.K=K->X.calm=true->∀ (i:Nat) (pins:List (Addr×Obj)) (s:Shared) (σ:St) (H:Hp) (E:Value->Shared->Prop),Inv X pins σ H s->(∀ b∈fp,FpOk X pins H b)->tn i s.heap->J.stop i H ->
  wpAny (model P w) X.A (pyNext (.ref it)) (fun r s1=>r=none/\Inv X pins σ H s1) E s
 self:∀ (A:Around) (i:Nat) (s:Shared) (Q:Value->Shared->Prop) (E:Value->Shared->Prop),tn i s.heap->Q (.ref it) s->wpAny (model P w) A (pyIter (.ref it)) Q E s
abbrev TI:=St->Hp->(It->Hp->Prop)->Prop
def PIE(X:Cx)(pins:List (Addr×Obj))(σ:St)(tg:Expr)(R:It->Hp->Prop)(itv:Value)(s2:Shared):Prop :=
 ∃ (it:Addr) (fp:List Addr) (tn:Nat->Heap->Prop) (J:It) (H':Hp),itv = .ref it/\Inv X pins σ H' s2/\Turn X.prog X.w X.K tg J fp it tn/\tn 0 s2.heap/\(∀ b∈fp,FpOk X pins H' b)/\R J H'
def PI(X:Cx)(tg iter:Expr)(wi:TI):Prop :=
 ∀ (pins:List (Addr×Obj)) (s:Shared) (σ:St) (H:Hp) (R:It->Hp->Prop),Inv X pins σ H s->wi σ H R ->
  wpAny (model X.prog X.w) X.A (eval iter X.env) (fun v s1=>wpAny (model X.prog X.w) X.A (pyIter v) (PIE X pins σ tg R) X.xe s1) X.xe s
theorem go_of{M : Model}{A : Around}{E : Value -> Shared -> Prop}{s : Shared}{tg : Expr}{it : Addr}{u : Value}{o : Obj}{n : String}{vs : Array Value}{Q : Unit -> Shared -> Prop}(ho : s.heap.get? it = some o)(hc : o.cls = .type n)(hd : o.data = .fields vs)
    (hn : ["enumerate", "zip", "dict_itemiterator", "dict_reverseitemiterator", "odict_iterator", "itertools.zip_longest", "itertools.pairwise"].contains n = false) (hQ : Q () s) : wpAny M A (letOwnedTupleGo tg (.ref it) u) Q E s := by
  unfold letOwnedTupleGo
  cases tg <;> first
    | exact wpAny_pure hQ
    | (cases u <;> first
        | exact wpAny_pure hQ
        | (refine wpAny_bind (wpAny_load ho ?_)
           rw [hc, hd]
           show wpAny M A (if (["enumerate", "zip", "dict_itemiterator", "dict_reverseitemiterator", "odict_iterator", "itertools.zip_longest", "itertools.pairwise"].contains n && vs[0]? == some (rawInt _)) = true then _ else _) Q E s
           rw [if_neg (by intro h; rw [hn, Bool.false_and] at h; cases h)]
           exact wpAny_pure hQ))
def Itl(K:PySem.W.Frag)(a:Addr):It :=
 ⟨fun i H=>∃ xs x,SqL K H a xs/\xs[i]? = some x,fun i H x H'=>H'=H/\∀ xs,SqL K H a xs->xs[i]? = some x,fun i H=>∃ xs,SqL K H a xs/\xs.length<=i⟩
def Itt(K:PySem.W.Frag)(a:Addr):It :=
 ⟨fun i H=>∃ xs x,SqT K H a xs/\xs[i]? = some x,fun i H x H'=>H'=H/\∀ xs,SqT K H a xs->xs[i]? = some x,fun i H=>∃ xs,SqT K H a xs/\xs.length<=i⟩
def Itr(lo:Int)(n:Nat):It:=⟨fun i _=>i<n,fun i H x H'=>H'=H/\x = .int (lo+i),fun i _=>n<=i⟩
theorem k_z{P:Program}{w:World}{K:PySem.W.Frag}{tg:Expr}(a it:Addr):Turn P w K tg (Itl K a) [it] it (fun i h=>h.IsListIter it a i) where
 mem:=by simp
 obj:=fun i h st b hb=>by
  have e:b=it:=by simpa using hb
  subst e
  obtain ⟨o,e,c,d⟩:=st
  exact ⟨o,e,fun v z=>by rw [d] at z;cases z⟩
 keep:=fun i h h' st k=>st.at fun o e=>k it (by simp) o e
 item:=by
  intro X hP hw hK hc i pins s σ H E I hf st hg
  subst hP hw hK
  obtain ⟨xs,x,hq,hx⟩:=hg
  obtain ⟨its,rv,p,hz⟩:=I.list hq
  obtain ⟨u,hu,ru⟩:=rv.get hx
  obtain ⟨f0,f1,f2,f3,f4,f5⟩:=hf it (by simp)
  refine wpAny_pyNext_list_item st p.isList (x:=u) (by simpa using hu) fun h' st' sb=>?_
  have I1:Inv X pins σ H { s with heap:=h' }:=I.turned (t':=s.toks) (fun b o hb e=>(sb.2 b hb).trans e) f0 f1 f3 f4 f5
  obtain ⟨o,e,c,d⟩:=id st'
  exact ⟨u,rfl,go_of (s:={ s with heap:=h' }) e c d (by decide) ⟨x,H,I1,ru,⟨rfl,fun ys hy=>by rw [I.list_inj hy hq];exact hx⟩,st',fun b hb=>(hf b hb).1⟩⟩
 done:=by
  intro X hP hw hK hc i pins s σ H E I hf st hg
  subst hP hw hK
  obtain ⟨xs,hq,hx⟩:=hg
  obtain ⟨its,rv,p,hz⟩:=I.list hq
  obtain ⟨f0,f1,f2,f3,f4,f5⟩:=hf it (by simp)
  have hl:=rv.length
  exact wpAny_pyNext_list_end (I.ok.hd hc) st p.isList (by simp;lia) fun h' eb=>⟨rfl,I.turned (t':=s.toks) (fun b o hb e=>eb b o hb e) f0 f1 f3 f4 f5⟩
 self:=fun _ _ _ _ _ st h=>wpAny_pyIter_listiter st h
theorem m_o{P:Program}{w:World}{K:PySem.W.Frag}{tg:Expr}(a it:Addr):Turn P w K tg (Itt K a) [it] it (fun i h=>h.IsTupleIter it a i) where
 mem:=by simp
 obj:=fun i h st b hb=>by
  have e:b=it:=by simpa using hb
  subst e
  obtain ⟨o,e,c,d⟩:=st
  exact ⟨o,e,fun v z=>by rw [d] at z;cases z⟩
 keep:=fun i h h' st k=>st.at fun o e=>k it (by simp) o e
 item:=by
  intro X hP hw hK hc i pins s σ H E I hf st hg
  subst hP hw hK
  obtain ⟨xs,x,hq,hx⟩:=hg
  obtain ⟨its,rv,p,hz⟩:=I.tuple hq
  obtain ⟨u,hu,ru⟩:=rv.get hx
  obtain ⟨f0,f1,f2,f3,f4,f5⟩:=hf it (by simp)
  refine wpAny_pyNext_tuple_item st (show s.heap.IsTuple a its.toArray from p) (x:=u) (by simpa using hu) fun h' st' sb=>?_
  have I1:Inv X pins σ H { s with heap:=h' }:=I.turned (t':=s.toks) (fun b o hb e=>(sb.2 b hb).trans e) f0 f1 f3 f4 f5
  obtain ⟨o,e,c,d⟩:=id st'
  exact ⟨u,rfl,go_of (s:={ s with heap:=h' }) e c d (by decide) ⟨x,H,I1,ru,⟨rfl,fun ys hy=>by rw [I.tuple_inj hy hq];exact hx⟩,st',fun b hb=>(hf b hb).1⟩⟩
 done:=by
  intro X hP hw hK hc i pins s σ H E I hf st hg
  subst hP hw hK
  obtain ⟨xs,hq,hx⟩:=hg
  obtain ⟨its,rv,p,hz⟩:=I.tuple hq
  obtain ⟨f0,f1,f2,f3,f4,f5⟩:=hf it (by simp)
  have hl:=rv.length
  exact wpAny_pyNext_tuple_end (I.ok.hd hc) st (show s.heap.IsTuple a its.toArray from p) (by simp;lia) fun h' eb=>⟨rfl,I.turned (t':=s.toks) (fun b o hb e=>eb b o hb e) f0 f1 f3 f4 f5⟩
 self:=fun _ _ _ _ _ st h=>wpAny_pyIter_tupleiter st h
theorem m_n{P:Program}{w:World}{K:PySem.W.Frag}{tg:Expr}(it:Addr)(lo:Int)(n:Nat):Turn P w K tg (Itr lo n) [it] it (fun i h=>IsRangeIter h it (lo+(i:Nat)*1) ((n:Int)-(i:Nat)) 1) where
 mem:=by simp
 obj:=fun i h st b hb=>by
  have e:b=it:=by simpa using hb
  subst e
  exact ⟨_,st,fun v z=>by
   have z':Data.fields _=Data.cell v:=z
   cases z'⟩
 keep:=fun i h h' st k=>k it (by simp) _ st
 item:=by
  intro X hP hw hK hc i pins s σ H E I hf st hg
  subst hP hw hK
  obtain ⟨f0,f1,f2,f3,f4,f5⟩:=hf it (by simp)
  have W:=Walks.range (prog:=X.prog) (w:=X.w) (I.ok.hd hc) it lo 1 n
  refine W.item i s _ _ hg st fun v h' tk hv st' kk=>?_
  obtain ⟨t,rfl⟩:=hv
  have I1:Inv X pins σ H { s with heap:=h',toks:=tk }:=I.turned (fun b o hb e=>kk b o (by simpa using hb) e) f0 f1 f3 f4 f5
  refine ⟨_,rfl,go_of (s:={ s with heap:=h',toks:=tk }) (n := "range_iterator") st' rfl rfl (by decide) ⟨.int (lo+i),H,I1,⟨t,?_⟩,⟨rfl,rfl⟩,st',fun b hb=>(hf b hb).1⟩⟩
  rw [Int.mul_one]
 done:=by
  intro X hP hw hK hc i pins s σ H E I hf st hg
  subst hP hw hK
  obtain ⟨f0,f1,f2,f3,f4,f5⟩:=hf it (by simp)
  exact wpAny_pyNext_range_end (I.ok.hd hc) st (by have:n<=i:=hg;lia) fun h' eb=>⟨rfl,I.turned (t':=s.toks) (fun b o hb e=>eb b o hb e) f0 f1 f3 f4 f5⟩
 self:=fun _ _ _ _ _ st h=>wpAny_pyIter_rangeiter st h
open PySem PySem.Spec PyProof.Rows
section
variable {X:Cx} {tg:Expr}
def iList(K:PySem.W.Frag)(tl:TE):TI:=fun σ H R=>tl σ H fun x H1=>∃ a,x = .ref a/\(∃ xs,SqL K H1 a xs)/\R (Itl K a) H1
def iTup(K:PySem.W.Frag)(tl:TE):TI:=fun σ H R=>tl σ H fun x H1=>∃ a,x = .ref a/\(∃ xs,SqT K H1 a xs)/\R (Itt K a) H1
theorem k_f{l:Expr}{tl:TE}(hl:PE X l tl):PI X tg l (iList X.K tl):=by
 intro pins s σ H R I h
 refine thn (hl pins s σ H _ I h) fun v s1 ⟨x,H1,I1,r1,q1⟩=>?_
 obtain ⟨a,e,⟨xs,hq⟩,q⟩:=q1
 subst e
 cases r1
 obtain ⟨its,rv,p,hz⟩:=I1.list hq
 refine wpAny_pyIter_list p.isList ?_
 refine ⟨s1.heap.objs.size,[s1.heap.objs.size],_,_,H1,rfl,I1.kept (t':=s1.toks) fun b o e=>Heap.get?_push_of_some _ e,k_z a _,⟨_,Heap.get?_push_size _ rfl,rfl,rfl⟩,fun b hb=>?_,q⟩
 have e:b=s1.heap.objs.size:=by simpa using hb
 subst e
 exact I1.fpOk (Nat.le_refl _) (I1.hok.fresh (Nat.le_refl _))
theorem pi_tup{l:Expr}{tl:TE}(hl:PE X l tl):PI X tg l (iTup X.K tl):=by
 intro pins s σ H R I h
 refine thn (hl pins s σ H _ I h) fun v s1 ⟨x,H1,I1,r1,q1⟩=>?_
 obtain ⟨a,e,⟨xs,hq⟩,q⟩:=q1
 subst e
 cases r1
 obtain ⟨its,rv,p,hz⟩:=I1.tuple hq
 refine wpAny_pyIter_tuple (show s1.heap.IsTuple a its.toArray from p) ?_
 refine ⟨s1.heap.objs.size,[s1.heap.objs.size],_,_,H1,rfl,I1.kept (t':=s1.toks) fun b o e=>Heap.get?_push_of_some _ e,m_o a _,⟨_,Heap.get?_push_size _ rfl,rfl,rfl⟩,fun b hb=>?_,q⟩
 have e:b=s1.heap.objs.size:=by simpa using hb
 subst e
 exact I1.fpOk (Nat.le_refl _) (I1.hok.fresh (Nat.le_refl _))
theorem range_it{pins:List (Addr×Obj)}{σ:St}{H:Hp}{s:Shared}{R:It->Hp->Prop}{E:Value->Shared->Prop}{lo hi:Int}{t u v:Tok}{tk:Nat}(I:Inv X pins σ H s)(h1 : -(2^62)<=lo)(h2:lo<2^62)(h3 : -(2^62)<=hi)(h4:hi<2^62)
  (q:R (Itr lo (hi-lo).toNat) H):wpAny (model X.prog X.w) X.A (pyIter (.ref s.heap.objs.size)) (PIE X pins σ tg R) E { s with heap:=s.heap.push { cls:=.type "range",data:=.fields #[.int lo t,.int hi u,.int 1 v] },toks:=tk }:=by
 refine wpAny_pyIter_range (IsRange.new ..) (small_one h1 h2 h3 h4) ?_
 have I1:Inv X pins σ H { s with heap:=s.heap.push { cls:=.type "range",data:=.fields #[.int lo t,.int hi u,.int 1 v] },toks:=tk }:=I.kept fun b o e=>Heap.get?_push_of_some _ e
 refine ⟨(s.heap.push { cls:=.type "range",data:=.fields #[.int lo t,.int hi u,.int 1 v] }).objs.size,[(s.heap.push { cls:=.type "range",data:=.fields #[.int lo t,.int hi u,.int 1 v] }).objs.size],_,_,H,rfl,
  I1.kept (t':=tk) fun b o e=>Heap.get?_push_of_some _ e,m_n _ lo (hi-lo).toNat,?_,fun b hb=>?_,q⟩
 ·have e1:lo+((0:Nat):Int)*1=lo:=by simp
  have e2:(((hi-lo).toNat:Nat):Int)-((0:Nat):Int)=Builtin.Range.rangeSize lo hi 1:=by rw [rangeSize_one];split<;>lia
  show IsRangeIter _ _ (lo+((0:Nat):Int)*1) ((((hi-lo).toNat:Nat):Int)-((0:Nat):Int)) 1
  rw [e1,e2]
  exact Heap.get?_push_size _ rfl
 ·have e:b=(s.heap.push { cls:=.type "range",data:=.fields #[.int lo t,.int hi u,.int 1 v] }).objs.size:=by simpa using hb
  subst e
  exact I1.fpOk (Nat.le_refl _) (I1.hok.fresh (Nat.le_refl _))
def iRng1(ta:TA):TI:=fun σ H R=>ta σ H fun vs H1=>∃ j:Int,vs=[.int j] /\ -(2^62)<=j/\j<2^62/\R (Itr 0 j.toNat) H1
theorem w_l{a:Expr}{ta:TA}{p pos:Pos}(hg:Gl X "range")(hm:X.mg "range" = none)(ha:PA X [a] ta)(hs:starEach [a] X.env=[(false,eval a X.env)]:=by rfl):PI X tg (.Call (.Name "range" p) [a] [] pos) (iRng1 ta):=by
 intro pins s σ H R I h
 refine Call_ (v_o I hg hm boot_range (PyProof.Rows.callWith_type1 (thn (ha pos pins s σ H _ I h) fun us s1 ⟨vs,H1,I1,r1,q1⟩=>?_) hs rfl))
 obtain ⟨j,e,q1,q2,q⟩:=q1
 subst e
 cases r1 with
 | cons r rr =>
  cases rr
  obtain ⟨t,rfl⟩:=r
  exact call_range_1 (range_it I1 (by lia) (by lia) q1 q2 (by simpa using q))
def tFor(wi:TI)(g:TG)(tb:TS):TS:=fun D σ H=>wi σ H fun J H1=>∃ W:Nat->Nat->St->Hp->Prop,(∃ m,W 0 m σ H1)/\∀ i m σ H,W i m σ H ->
 (J.stop i H/\D.nx σ H)\/(J.go i H/\∃ N:St->Hp->Prop,(∀ σ' H',N σ' H'->∃ m',m'<m/\W (i+1) m' σ' H')/\∀ x H',J.yld i H x H'->g x σ H' fun σ2 H2=>tb { D with nx:=N,ct:=N,bk:=D.nx } σ2 H2)
def pinsAt(fp:List Addr)(h:Heap):List (Addr×Obj):=fp.filterMap fun b=>(h.get? b).map fun o=>(b,o)
theorem v_k{fp:List Addr}{h:Heap}{b:Addr}{o:Obj}(hb:b∈fp)(e:h.get? b=some o):(b,o)∈pinsAt fp h:=List.mem_filterMap.mpr ⟨b,hb,by rw [e];rfl⟩
theorem q_j{fp:List Addr}{h:Heap}{p:Addr×Obj}(hp:p∈pinsAt fp h):p.1∈fp/\h.get? p.1=some p.2:=by
 obtain ⟨b,hb,e⟩:=List.mem_filterMap.mp hp
 cases q:h.get? b with
 | none=>rw [q] at e;cases e
 | some o =>
  rw [q] at e
  have e':(b,o)=p:=Option.some.inj e
  subst e'
  exact ⟨hb,q⟩
theorem Inv.pinned{pins:List (Addr×Obj)}{σ:St}{H:Hp}{s:Shared}{fp:List Addr}(I:Inv X pins σ H s)(hf:∀ b∈fp,FpOk X pins H b)(ho:∀ b∈fp,∃ o,s.heap.get? b=some o/\∀ v,o.data ≠ .cell v):Inv X (pins++pinsAt fp s.heap) σ H s :=
 I.pins_of fun p hp=>(List.mem_append.mp hp).elim (fun z=>I.pin p (List.mem_append_right _ z)) fun z=>by
  obtain ⟨hb,e⟩:=q_j z
  obtain ⟨f0,f1,f2,_⟩:=hf p.1 hb
  obtain ⟨o,e',d⟩:=ho p.1 hb
  rw [e] at e';cases e'
  exact ⟨e,f0,f1,f2,d⟩
theorem Inv.unpinned{pins pl:List (Addr×Obj)}{σ:St}{H:Hp}{s:Shared}(I:Inv X (pins++pl) σ H s):Inv X pins σ H s:=I.pins_of fun p hp=>I.pin p (List.mem_append_right _ (List.mem_append_left _ hp))
theorem v_a{iter:Expr}{body:List Stmt}{wi:TI}{g:TG}{tb:TS}{pos:Pos}(hp:PassesOwn (model X.prog X.w) X.A X.env X.xe)(hc:X.calm=true)(hi:PI X tg iter wi)(hg:PG X tg g)(hb:PSs X body tb)
  (hs:∀ x,foldedSetIterable iter X.env x=pure x:=by intro _;rfl):PS X (.For tg iter body [] pos) (tFor wi g tb):=by
 intro pins s σ H D I h
 refine wpAny_For (thn (hi pins s σ H _ I h) fun v s1 h1=>thn h1 fun itv s2 h2=>?_) hs
 obtain ⟨it,fp,tn,J,H2,e,I2,T,st2,f2,W,⟨m0,w0⟩,turn⟩:=h2
 subst e
 have stat:∀ {H':Hp},(∀ b∈fp,H' b=none)->∀ b∈fp,FpOk X pins H' b:=fun hn b hb=>⟨hn b hb,(f2 b hb).2⟩
 refine codeAny_forLoop_any (fun n s'=>∃ i σ' H',Inv X pins σ' H' s'/\tn i s'.heap/\(∀ b∈fp,H' b=none)/\W i n σ' H') ?_ m0 ⟨0,σ,H2,I2,st2,fun b hb=>(f2 b hb).1,w0⟩
 rintro n s3 ⟨i,σ3,H3,I3,st3,fr3,w3⟩
 rcases turn i n σ3 H3 w3 with ⟨stop,qn⟩ | ⟨go,N,hN,step⟩
 ·refine wpAny_passesOwn hp (thn (T.done X rfl rfl rfl hc i pins s3 σ3 H3 X.xe I3 (stat fr3) st3 stop) fun r s4 ⟨hr,I4⟩=>?_)
  subst hr
  exact wpAny_execs_nil ⟨σ3,H3,I4,qn⟩
 ·refine wpAny_passesOwn hp (thn (T.item X rfl rfl rfl hc i pins s3 σ3 H3 X.xe I3 (stat fr3) st3 go) fun r s4 ⟨u,hr,h4⟩=>?_)
  subst hr
  refine wpAny_passesOwn hp (thn h4 fun _ s5 ⟨x,H5,I5,r5,y5,st5,fr5⟩=>?_)
  have I5':=I5.pinned (stat fr5) (T.obj _ _ st5)
  refine wpAny_passesOwn hp (thn (hg _ s5 σ3 H5 x u _ I5' r5 (step x H5 y5)) fun _ s6 ⟨σ6,H6,I6,q6⟩=>?_)
  refine wpAny_passesOwn hp (thn (hb _ s6 σ6 H6 _ I6 q6) fun f s7 q7=>?_)
  have again:∀ {σ7:St} {H7:Hp},Inv X (pins++pinsAt fp s5.heap) σ7 H7 s7->N σ7 H7->∃ m,m<n/\∃ i σ' H',Inv X pins σ' H' s7/\tn i s7.heap/\(∀ b∈fp,H' b=none)/\W i m σ' H':=fun {σ7 H7} I7 n7=>by
   obtain ⟨m',hm,w7⟩:=hN σ7 H7 n7
   refine ⟨m',hm,i+1,σ7,H7,I7.unpinned,T.keep _ _ _ st5 fun b hb o e=>(I7.pin (b,o) (List.mem_append_right _ (List.mem_append_right _ (v_k hb e)))).1,fun b hb=>?_,w7⟩
   obtain ⟨o,e,d⟩:=T.obj _ _ st5 b hb
   exact (I7.pin (b,o) (List.mem_append_right _ (List.mem_append_right _ (v_k hb e)))).2.1
  cases f with
  | next=>obtain ⟨σ7,H7,I7,n7⟩:=q7;exact again I7 n7
  | cont=>obtain ⟨σ7,H7,I7,n7⟩:=q7;exact again I7 n7
  | brk=>obtain ⟨σ7,H7,I7,q7⟩:=q7;exact ⟨σ7,H7,I7.unpinned,q7⟩
  | ret v=>obtain ⟨x7,σ7,H7,I7,r7,q7⟩:=q7;exact ⟨x7,σ7,H7,I7.unpinned,r7,q7⟩
end
theorem o_p{K:PySem.W.Frag}{a:Addr}{xs:List V}{g:TG}{tb:TS}{D:Ends}{σ:St}{H:Hp}(Pv:Nat->St->Hp->Prop)(h0:Pv 0 σ H)(hl:∀ i σ H,i<=xs.length->Pv i σ H->SqL K H a xs)
  (hs:∀ i x σ H,xs[i]? = some x->Pv i σ H->g x σ H fun σ2 H2=>tb { D with nx:=Pv (i+1),ct:=Pv (i+1),bk:=D.nx } σ2 H2) (hd:∀ σ H,Pv xs.length σ H->D.nx σ H) :
  ∃ W:Nat->Nat->St->Hp->Prop,(∃ m,W 0 m σ H)/\∀ i m σ H,W i m σ H ->
   ((Itl K a).stop i H/\D.nx σ H)\/((Itl K a).go i H/\∃ N:St->Hp->Prop,(∀ σ' H',N σ' H'->∃ m',m'<m/\W (i+1) m' σ' H')/\∀ x H',(Itl K a).yld i H x H'->g x σ H' fun σ2 H2=>tb { D with nx:=N,ct:=N,bk:=D.nx } σ2 H2):=by
 refine ⟨fun i m σ H=>m=xs.length-i/\i<=xs.length/\Pv i σ H,⟨xs.length,by simp,Nat.zero_le _,h0⟩,?_⟩
 rintro i m σ H ⟨rfl,hi,p⟩
 have q:=hl i σ H hi p
 by_cases hlt:i<xs.length
 ·refine .inr ⟨⟨xs,xs[i],q,by simp [hlt]⟩,Pv (i+1),fun σ' H' p'=>⟨xs.length-(i+1),by lia,rfl,hlt,p'⟩,fun x H' y=>?_⟩
  obtain ⟨e,y⟩:=y
  subst e
  exact hs i x σ _ (y xs q) p
 ·have e:i=xs.length:=by lia
  subst e
  exact .inl ⟨⟨xs,q,Nat.le_refl _⟩,hd σ H p⟩
theorem for_tup{K:PySem.W.Frag}{a:Addr}{xs:List V}{g:TG}{tb:TS}{D:Ends}{σ:St}{H:Hp}(Pv:Nat->St->Hp->Prop)(h0:Pv 0 σ H)(hl:∀ i σ H,i<=xs.length->Pv i σ H->SqT K H a xs)
  (hs:∀ i x σ H,xs[i]? = some x->Pv i σ H->g x σ H fun σ2 H2=>tb { D with nx:=Pv (i+1),ct:=Pv (i+1),bk:=D.nx } σ2 H2) (hd:∀ σ H,Pv xs.length σ H->D.nx σ H) :
  ∃ W:Nat->Nat->St->Hp->Prop,(∃ m,W 0 m σ H)/\∀ i m σ H,W i m σ H ->
   ((Itt K a).stop i H/\D.nx σ H)\/((Itt K a).go i H/\∃ N:St->Hp->Prop,(∀ σ' H',N σ' H'->∃ m',m'<m/\W (i+1) m' σ' H')/\∀ x H',(Itt K a).yld i H x H'->g x σ H' fun σ2 H2=>tb { D with nx:=N,ct:=N,bk:=D.nx } σ2 H2):=by
 refine ⟨fun i m σ H=>m=xs.length-i/\i<=xs.length/\Pv i σ H,⟨xs.length,by simp,Nat.zero_le _,h0⟩,?_⟩
 rintro i m σ H ⟨rfl,hi,p⟩
 have q:=hl i σ H hi p
 by_cases hlt:i<xs.length
 ·refine .inr ⟨⟨xs,xs[i],q,by simp [hlt]⟩,Pv (i+1),fun σ' H' p'=>⟨xs.length-(i+1),by lia,rfl,hlt,p'⟩,fun x H' y=>?_⟩
  obtain ⟨e,y⟩:=y
  subst e
  exact hs i x σ _ (y xs q) p
 ·have e:i=xs.length:=by lia
  subst e
  exact .inl ⟨⟨xs,q,Nat.le_refl _⟩,hd σ H p⟩
theorem q_f{lo:Int}{n:Nat}{g:TG}{tb:TS}{D:Ends}{σ:St}{H:Hp}(Pv:Nat->St->Hp->Prop)(h0:Pv 0 σ H)
  (hs:∀ i σ H,i<n->Pv i σ H->g (.int (lo+i)) σ H fun σ2 H2=>tb { D with nx:=Pv (i+1),ct:=Pv (i+1),bk:=D.nx } σ2 H2) (hd:∀ σ H,Pv n σ H->D.nx σ H) :
  ∃ W:Nat->Nat->St->Hp->Prop,(∃ m,W 0 m σ H)/\∀ i m σ H,W i m σ H ->
   ((Itr lo n).stop i H/\D.nx σ H)\/((Itr lo n).go i H/\∃ N:St->Hp->Prop,(∀ σ' H',N σ' H'->∃ m',m'<m/\W (i+1) m' σ' H')/\∀ x H',(Itr lo n).yld i H x H'->g x σ H' fun σ2 H2=>tb { D with nx:=N,ct:=N,bk:=D.nx } σ2 H2):=by
 refine ⟨fun i m σ H=>m=n-i/\i<=n/\Pv i σ H,⟨n,by simp,Nat.zero_le _,h0⟩,?_⟩
 rintro i m σ H ⟨rfl,hi,p⟩
 by_cases hlt:i<n
 ·refine .inr ⟨hlt,Pv (i+1),fun σ' H' p'=>⟨n-(i+1),by lia,rfl,hlt,p'⟩,fun x H' y=>?_⟩
  obtain ⟨e,y⟩:=y
  subst e y
  exact hs i σ _ hlt p
 ·have e:i=n:=by lia
  subst e
  exact .inl ⟨Nat.le_refl _,hd σ H p⟩
open PySem PySem.Spec PyProof.Rows
abbrev R2:=V->V->Hp->VK->Prop
def OpR(X:Cx)(f:Value->Value->Sem Value)(r:R2):Prop :=
 ∀ (pins:List (Addr×Obj)) (s:Shared) (σ:St) (H:Hp) (x y:V) (v u:Value) (Q:VK),Inv X pins σ H s->RelV x v->RelV y u->r x y H Q ->
  wpAny (model X.prog X.w) X.A (f v u) (EP X pins σ Q) X.xe s
def CallR(X:Cx)(f:Value)(r:List V->Hp->VK->Prop):Prop :=
 ∀ (pins:List (Addr×Obj)) (s:Shared) (σ:St) (H:Hp) (xs:List V) (us:List Value) (Q:VK),Inv X pins σ H s->Vals xs us->r xs H Q ->
  wpAny (model X.prog X.w) X.A (call f us) (EP X pins σ Q) X.xe s
def TruR(X:Cx)(r:V->Hp->(Bool->Hp->Prop)->Prop):Prop :=
 ∀ (pins:List (Addr×Obj)) (s:Shared) (σ:St) (H:Hp) (x:V) (v:Value) (Q:Bool->Hp->Prop),Inv X pins σ H s->RelV x v->r x H Q ->
  wpAny (model X.prog X.w) X.A (truthy v) (TP X pins σ Q) X.xe s
def tOp(r:R2)(ta tb:TE):TE:=fun σ H Q=>ta σ H fun x H1=>tb σ H1 fun y H2=>r x y H2 Q
def rI(C:Int->Int->Prop)(g:Int->Int->V):R2:=fun x y H Q=>∃ i j,x = .int i/\y = .int j/\C i j/\Q (g i j) H
def rI0(g:Int->Int->V):R2:=fun x y H Q=>∃ i j,x = .int i/\y = .int j/\Q (g i j) H
section
variable {X:Cx} {a b c:Expr} {ta tb tc:TE} {pos:Pos}
theorem binT(ha:PE X a ta)(hb:PE X b tb){pins:List (Addr×Obj)}{s:Shared}{σ:St}{H:Hp}{R:V->V->Hp->Prop}(I:Inv X pins σ H s)
  (h:ta σ H fun x H1=>tb σ H1 fun y H2=>R x y H2) {Q:Value->Shared->Prop} {f:Value->Value->Sem Value}
  (hf:∀ v u s2 x y H2,Inv X pins σ H2 s2->RelV x v->RelV y u->R x y H2->wpAny (model X.prog X.w) X.A (f v u) Q X.xe s2) :
  wpAny (model X.prog X.w) X.A (eval a X.env) (fun v s₁=>wpAny (model X.prog X.w) X.A (eval b X.env) (fun u s₂=>wpAny (model X.prog X.w) X.A (f v u) Q X.xe s₂) X.xe s₁) X.xe s:=by
 refine thn (ha pins s σ H _ I h) fun v s1 ⟨x,H1,I1,r1,q1⟩=>?_
 refine thn (hb pins s1 σ H1 _ I1 q1) fun u s2 ⟨y,H2,I2,r2,q2⟩=>?_
 exact hf v u s2 x y H2 I2 r1 r2 q2
theorem z_l{op:Operator}{r:R2}(ho:OpR X (binaryOp op) r)(ha:PE X a ta)(hb:PE X b tb):PE X (.BinOp a op b pos) (tOp r ta tb):=by
 intro pins s σ H Q I h
 exact wpAny_BinOp (binT ha hb I h fun v u s2 x y H2 I2 rx ry q=>ho pins s2 σ H2 x y v u Q I2 rx ry q)
theorem opI{f:Value->Value->Sem Value}{C:Int->Int->Prop}{g:Int->Int->Int}
  (rule:∀ (i j:Int) (t u:Tok) (s:Shared) (Q:Value->Shared->Prop) (E:Value->Shared->Prop),C i j->Q (.int (g i j) s.toks) { s with toks:=s.toks+1 }->wpAny (model X.prog X.w) X.A (f (.int i t) (.int j u)) Q E s) :
  OpR X f (rI C fun i j=>.int (g i j)):=by
 intro pins s σ H x y v u Q I rx ry h
 obtain ⟨i,j,rfl,rfl,hc,q⟩:=h
 obtain ⟨t,rfl⟩:=rx
 obtain ⟨t',rfl⟩:=ry
 exact rule i j t t' s _ _ hc ⟨.int (g i j),H,I.tok _,⟨_,rfl⟩,q⟩
theorem opI0{f:Value->Value->Sem Value}{g:Int->Int->Int}
  (rule:∀ (i j:Int) (t u:Tok) (s:Shared) (Q:Value->Shared->Prop) (E:Value->Shared->Prop),Q (.int (g i j) s.toks) { s with toks:=s.toks+1 }->wpAny (model X.prog X.w) X.A (f (.int i t) (.int j u)) Q E s) :
  OpR X f (rI0 fun i j=>.int (g i j)):=by
 intro pins s σ H x y v u Q I rx ry h
 obtain ⟨i,j,rfl,rfl,q⟩:=h
 obtain ⟨t,rfl⟩:=rx
 obtain ⟨t',rfl⟩:=ry
 exact rule i j t t' s _ _ ⟨.int (g i j),H,I.tok _,⟨_,rfl⟩,q⟩
theorem opB0{f:Value->Value->Sem Value}{g:Int->Int->Bool}
  (rule:∀ (i j:Int) (t u:Tok) (s:Shared) (Q:Value->Shared->Prop) (E:Value->Shared->Prop),Q (.bool (g i j)) s->wpAny (model X.prog X.w) X.A (f (.int i t) (.int j u)) Q E s) :
  OpR X f (rI0 fun i j=>.bl (g i j)):=by
 intro pins s σ H x y v u Q I rx ry h
 obtain ⟨i,j,rfl,rfl,q⟩:=h
 obtain ⟨t,rfl⟩:=rx
 obtain ⟨t',rfl⟩:=ry
 exact rule i j t t' s _ _ ⟨.bl (g i j),H,I,rfl,q⟩
def CPow(i j:Int):Prop:=0<=j/\j<=1000000/\i.natAbs<2^64
def CMul(i j:Int):Prop:=(-(2^64)<i/\i<2^64)\/(-(2^64)<j/\j<2^64)
theorem CMul.ok{i j:Int}(h:CMul i j):IntMulOk i j:=by
 rcases h with ⟨h1,h2⟩ | ⟨h1,h2⟩
 ·exact .of_left (intBits_le_64 h1 h2)
 ·exact .of_right (intBits_le_64 h1 h2)
theorem z_w:OpR X (binaryOp .Add) (rI0 fun i j=>.int (i+j)):=opI0 fun _ _ _ _ _ _ _ q=>add_int q
theorem s_a:OpR X (binaryOp .Sub) (rI0 fun i j=>.int (i-j)):=opI0 fun _ _ _ _ _ _ _ q=>sub_int q
theorem y_g:OpR X (binaryOp .Mult) (rI CMul fun i j=>.int (i*j)):=opI fun _ _ _ _ _ _ _ hc q=>mul_int q hc.ok
theorem x_c:OpR X (binaryOp .Mod) (rI (fun _ j=>0<j) fun i j=>.int (i%j)):=opI fun i j _ _ _ _ _ hc q=>by
 have h1:(0:Int)<j:=hc
 exact mod_int' (by lia) (by rw [Int.fmod_eq_emod_of_nonneg i (by lia)];exact q)
theorem o_x:OpR X (binaryOp .Pow) (rI CPow fun i j=>.int (i^j.toNat)):=opI fun _ _ _ _ _ _ _ hc q=>pow_int_small hc.1 hc.2.1 hc.2.2 q
theorem s_q:OpR X (binaryOp .BitXor) (rI0 fun i j=>.int (Builtin.bitXor i j)):=opI0 fun _ _ _ _ _ _ _ q=>xor_int q
end
def scal:V->V->Bool
 | .non,.non=>true | .non,.int _=>true | .int _,.non=>true | .non,.bl _=>true | .bl _,.non=>true | .non,.str _=>true | .str _,.non=>true
 | .int _,.int _=>true | .bl _,.bl _=>true | .str _,.str _=>true | .byt _,.byt _=>true
 | .int _,.str _=>true | .str _,.int _=>true | .bl _,.str _=>true | .str _,.bl _=>true
 | _,_=>false
def rEq:R2:=fun x y H Q=>scal x y=true/\Q (.bl (decide (x=y))) H
def rNe:R2:=fun x y H Q=>scal x y=true/\Q (.bl (!decide (x=y))) H
theorem l_g{i j:Int}:decide (V.int i=V.int j)=(i == j):=by
 rw [Bool.eq_iff_iff]
 simp
theorem dec_bl{i j:Bool}:decide (V.bl i=V.bl j)=(i == j):=by
 rw [Bool.eq_iff_iff]
 simp
theorem l_h{i j:Str}:decide (V.str i=V.str j)=(i == j):=by
 rw [Bool.eq_iff_iff]
 simp
theorem l_f{i j:Array UInt8}:decide (V.byt i=V.byt j)=(i.toList == j.toList):=by
 rw [Bool.eq_iff_iff]
 cases i
 cases j
 simp
section
variable {X:Cx} {a b c:Expr} {ta tb tc:TE} {pos:Pos}
theorem y_e{pins:List (Addr×Obj)}{σ:St}{H:Hp}{s:Shared}{Q:VK}{k k':Bool}(I:Inv X pins σ H s)(q:Q (.bl k) H)(e:k=k'):EP X pins σ Q (.bool k') s:=by
 subst e
 exact ⟨.bl k,H,I,rfl,q⟩
theorem k_d:OpR X (compareOp .Eq) rEq:=by
 intro pins s σ H x y v u Q I rx ry h
 obtain ⟨hs,q⟩:=h
 cases x with
 | non =>
  cases rx
  cases y with
  | non=>cases ry;exact PySem.EqNone.eq_none_none (y_e I q (by simp))
  | bl j=>cases ry;exact PySem.EqNone.eq_none_bool (y_e I q (by simp))
  | int j=>obtain ⟨t',rfl⟩:=ry;exact PySem.EqNone.eq_none_int (y_e I q (by simp))
  | str j=>obtain ⟨t',rfl⟩:=ry;exact PySem.EqNone.eq_none_str (y_e I q (by simp))
  | _=>exact absurd (show false=true from hs) Bool.false_ne_true
 | bl i =>
  cases rx
  cases y with
  | non=>cases ry;exact PySem.EqNone.eq_bool_none (y_e I q (by simp))
  | bl j=>cases ry;exact eq_bool (y_e I q dec_bl)
  | str j=>obtain ⟨t',rfl⟩:=ry;exact PySem.EqMixed.eq_bool_str (y_e I q (by simp))
  | _=>exact absurd (show false=true from hs) Bool.false_ne_true
 | int i =>
  obtain ⟨t,rfl⟩:=rx
  cases y with
  | non=>cases ry;exact PySem.EqNone.eq_int_none (y_e I q (by simp))
  | int j=>obtain ⟨t',rfl⟩:=ry;exact eq_int (y_e I q l_g)
  | str j=>obtain ⟨t',rfl⟩:=ry;exact PySem.EqMixed.eq_int_str (y_e I q (by simp))
  | _=>exact absurd (show false=true from hs) Bool.false_ne_true
 | str i =>
  obtain ⟨t,rfl⟩:=rx
  cases y with
  | non=>cases ry;exact PySem.EqNone.eq_str_none (y_e I q (by simp))
  | bl j=>cases ry;exact PySem.EqMixed.eq_str_bool (y_e I q (by simp))
  | int j=>obtain ⟨t',rfl⟩:=ry;exact PySem.EqMixed.eq_str_int (y_e I q (by simp))
  | str j=>obtain ⟨t',rfl⟩:=ry;exact eq_str (y_e I q l_h)
  | _=>exact absurd (show false=true from hs) Bool.false_ne_true
 | byt i =>
  obtain ⟨t,rfl⟩:=rx
  cases y with
  | byt j=>obtain ⟨t',rfl⟩:=ry;exact PySem.W.eq_bytes (y_e I q l_f)
  | _=>exact absurd (show false=true from hs) Bool.false_ne_true
 | _=>cases y<;>exact absurd (show false=true from hs) Bool.false_ne_true
theorem u_v:OpR X (compareOp .NotEq) rNe:=by
 intro pins s σ H x y v u Q I rx ry h
 obtain ⟨hs,q⟩:=h
 cases x with
 | non =>
  cases rx
  cases y with
  | non=>cases ry;exact PySem.EqNone.ne_none_none (y_e I q (by simp))
  | bl j=>cases ry;exact PySem.EqNone.ne_none_bool (y_e I q (by simp))
  | int j=>obtain ⟨t',rfl⟩:=ry;exact PySem.EqNone.ne_none_int (y_e I q (by simp))
  | str j=>obtain ⟨t',rfl⟩:=ry;exact PySem.EqNone.ne_none_str (y_e I q (by simp))
  | _=>exact absurd (show false=true from hs) Bool.false_ne_true
 | bl i =>
  cases rx
  cases y with
  | non=>cases ry;exact PySem.EqNone.ne_bool_none (y_e I q (by simp))
  | bl j=>cases ry;exact ne_bool (y_e I q (congrArg not dec_bl))
  | str j=>obtain ⟨t',rfl⟩:=ry;exact PySem.EqMixed.ne_bool_str (y_e I q (by simp))
  | _=>exact absurd (show false=true from hs) Bool.false_ne_true
 | int i =>
  obtain ⟨t,rfl⟩:=rx
  cases y with
  | non=>cases ry;exact PySem.EqNone.ne_int_none (y_e I q (by simp))
  | int j=>obtain ⟨t',rfl⟩:=ry;exact ne_int (y_e I q (congrArg not l_g))
  | str j=>obtain ⟨t',rfl⟩:=ry;exact PySem.EqMixed.ne_int_str (y_e I q (by simp))
  | _=>exact absurd (show false=true from hs) Bool.false_ne_true
 | str i =>
  obtain ⟨t,rfl⟩:=rx
  cases y with
  | non=>cases ry;exact PySem.EqNone.ne_str_none (y_e I q (by simp))
  | bl j=>cases ry;exact PySem.EqMixed.ne_str_bool (y_e I q (by simp))
  | int j=>obtain ⟨t',rfl⟩:=ry;exact PySem.EqMixed.ne_str_int (y_e I q (by simp))
  | str j=>obtain ⟨t',rfl⟩:=ry;exact ne_str (y_e I q (congrArg not l_h))
  | _=>exact absurd (show false=true from hs) Bool.false_ne_true
 | byt i =>
  obtain ⟨t,rfl⟩:=rx
  cases y with
  | byt j=>obtain ⟨t',rfl⟩:=ry;exact PySem.W.ne_bytes (y_e I q (congrArg not l_f))
  | _=>exact absurd (show false=true from hs) Bool.false_ne_true
 | _=>cases y<;>exact absurd (show false=true from hs) Bool.false_ne_true
theorem m_e:OpR X (compareOp .Lt) (rI0 fun i j=>.bl (decide (i<j))):=opB0 fun _ _ _ _ _ _ _ q=>lt_int q
theorem m_d:OpR X (compareOp .LtE) (rI0 fun i j=>.bl (decide (i<=j))):=opB0 fun _ _ _ _ _ _ _ q=>le_int q
theorem op_gt:OpR X (compareOp .Gt) (rI0 fun i j=>.bl (decide (j<i))):=opB0 fun _ _ _ _ _ _ _ q=>gt_int q
theorem op_ge:OpR X (compareOp .GtE) (rI0 fun i j=>.bl (decide (j<=i))):=opB0 fun _ _ _ _ _ _ _ q=>ge_int q
theorem op_isN:OpR X (compareOp .Is) (fun x y H Q=>y = .non/\Q (.bl (decide (x = .non))) H):=by
 intro pins s σ H x y v u Q I rx ry h
 obtain ⟨rfl,q⟩:=h
 cases ry
 refine is_none_gen (y_e I q ?_)
 cases x<;>first
  | (cases rx;rfl)
  | (obtain ⟨t,rfl⟩:=rx;rfl)
theorem nomark(b:Expr){op:CmpOp}(h:op ≠ .In:=by decide)(h2:op ≠ .NotIn:=by decide):behindInMarks op b=false:=by
 have e1:(op == CmpOp.In)=false:=by cases op<;>first | rfl | exact absurd rfl h
 have e2:(op == CmpOp.NotIn)=false:=by cases op<;>first | rfl | exact absurd rfl h2
 cases b<;>simp [behindInMarks,e1,e2]
theorem v_t{op:CmpOp}{r:R2}(ho:OpR X (compareOp op) r)(ha:PE X a ta)(hb:PE X b tb)(hm:behindInMarks op b=false):PE X (.Compare a [op] [b] pos) (tOp r ta tb):=by
 intro pins s σ H Q I h
 exact wpAny_Compare1 (binT ha hb I h fun v u s2 x y H2 I2 rx ry q=>ho pins s2 σ H2 x y v u Q I2 rx ry q) hm
def tTest(t:TE):TT:=fun σ H Q=>t σ H fun x H'=>∃ k,x = .bl k/\Q k H'
theorem y_d{op:CmpOp}{r:R2}(ho:OpR X (compareOp op) r)(ha:PE X a ta)(hb:PE X b tb)(hm:behindInMarks op b=false):PT X (.Compare a [op] [b] pos) (tTest (tOp r ta tb)):=by
 intro pins s σ H Q I h
 refine wpAny_isTrue_Compare1 (thn (ha pins s σ H _ I h) fun v s1 ⟨x,H1,I1,r1,q1⟩=>thn (hb pins s1 σ H1 _ I1 q1) fun u s2 ⟨y,H2,I2,r2,q2⟩ =>
  thn (ho pins s2 σ H2 x y v u _ I2 r1 r2 q2) fun c s3 ⟨z,H3,I3,r3,k,e,q3⟩=>?_) hm
 subst e
 cases r3
 exact wpAny_truthy_bool ⟨H3,I3,q3⟩
def tChain(r r':R2)(ta tb tc:TE):TE:=fun σ H Q=>ta σ H fun x H1=>tb σ H1 fun y H2=>r x y H2 fun z H3=>∃ k,z = .bl k /\
 (if k=true then tc σ H3 fun w' H4=>r' y w' H4 Q else Q (.bl false) H3)
theorem pe_chain{op op':CmpOp}{r r':R2}(ho:OpR X (compareOp op) r)(ho':OpR X (compareOp op') r')(ha:PE X a ta)(hb:PE X b tb)(hc:PE X c tc)
  (hm:lastMarks [op,op'] [b,c]=false:=by with_unfolding_all rfl):PE X (.Compare a [op,op'] [b,c] pos) (tChain r r' ta tb tc):=by
 intro pins s σ H Q I h
 refine Compare_chain (thn (ha pins s σ H _ I h) fun v s1 ⟨x,H1,I1,r1,q1⟩=>chain_link (thn (hb pins s1 σ H1 _ I1 q1) fun u s2 ⟨y,H2,I2,r2,q2⟩ =>
  thn (ho pins s2 σ H2 x y v u _ I2 r1 r2 q2) fun d s3 ⟨z,H3,I3,r3,k,e,q3⟩=>?_)) hm
 subst e
 cases r3
 refine wpAny_truthy_bool ?_
 cases k with
 | false=>exact ite_ff ⟨.bl false,H3,I3,rfl,q3⟩
 | true=>exact ite_tt (chain_last (thn (hc pins s3 σ H3 _ I3 q3) fun w' s4 ⟨z',H4,I4,r4,q4⟩=>ho' pins s4 σ H4 y z' u w' Q I4 r2 r4 q4))
def TruV(K:PySem.W.Frag)(x:V)(H:Hp)(k:Bool):Prop :=
 match x with
 | .non=>k=false
 | .bl b=>k=b
 | .int i=>k=(i != 0)
 | .str y=>y.length<=sizeLine/\k=((y.length:Int) != 0)
 | .byt y=>y.size<=sizeLine/\k=((y.size:Int) != 0)
 | .ref p=>(∃ xs,SqL K H p xs/\k = !xs.isEmpty)\/(∃ xs,SqT K H p xs/\k = !xs.isEmpty)\/∃ kvs,H p=some (.dK kvs)/\k = !kvs.isEmpty
 | _=>False
theorem n_s{κ:Type}{kvs:List (κ×V)}{vs:List (κ×Value)}(r:KV kvs vs):(!vs.isEmpty) = !kvs.isEmpty:=by
 cases r<;>rfl
theorem s_p{xs:List V}{its:List Value}(r:Vals xs its):(!its.toArray.isEmpty) = !xs.isEmpty:=by
 cases r<;>simp
theorem line63:(sizeLine:Nat)<2^63:=by rw [sizeLine_eq];decide
theorem tru_ok:TruR X (fun x H Q=>∃ k,TruV X.K x H k/\Q k H):=by
 intro pins s σ H x v Q I rx h
 obtain ⟨k,e,q⟩:=h
 have hl:=line63
 have hs:sizeLine=16777216:=sizeLine_eq
 cases x with
 | non =>
  cases rx
  have e':k=false:=e
  subst e'
  exact truthy_none ⟨H,I,q⟩
 | bl b =>
  cases rx
  have e':k=b:=e
  subst e'
  exact wpAny_truthy_bool ⟨H,I,q⟩
 | int i =>
  obtain ⟨t,rfl⟩:=rx
  have e':k=(i != 0):=e
  subst e'
  exact PySem.P.truthy_int ⟨H,I,q⟩
 | str y =>
  obtain ⟨t,rfl⟩:=rx
  obtain ⟨hy,e'⟩:y.length<=sizeLine/\k=((y.length:Int) != 0):=e
  subst e'
  exact PySem.P.truthy_str (by lia) ⟨H,I.tok _,q⟩
 | byt y =>
  obtain ⟨t,rfl⟩:=rx
  obtain ⟨hy,e'⟩:y.size<=sizeLine/\k=((y.size:Int) != 0):=e
  subst e'
  exact PySem.W.truthy_bytes (by lia) ⟨H,I.tok _,q⟩
 | ref p =>
  cases rx
  have e':(∃ xs,SqL X.K H p xs/\k = !xs.isEmpty)\/(∃ xs,SqT X.K H p xs/\k = !xs.isEmpty)\/∃ kvs,H p=some (.dK kvs)/\k = !kvs.isEmpty:=e
  rcases e' with ⟨xs,hx,e'⟩ | ⟨xs,hx,e'⟩ | ⟨kvs,hx,e'⟩
  ·subst e'
   obtain ⟨its,r,pl,hz⟩:=I.list hx
   have hlen:=r.length
   exact wpAny_truthy_list pl.isList (by simp only [List.size_toArray];lia) ⟨H,I.tok _,by rw [s_p r];exact q⟩
  ·subst e'
   obtain ⟨its,r,pl,hz⟩:=I.tuple hx
   have hlen:=r.length
   exact truthy_tuple pl (by simp only [List.size_toArray];lia) ⟨H,I.tok _,by rw [s_p r];exact q⟩
  ·subst e'
   obtain ⟨hz,hS,vs,r,m⟩:kvs.length<=sizeLine/\(p == sysModules)=false/\∃ vs,KV kvs vs/\s.heap.DictOf (mixKind X.prog X.w) p vs:=I.hok p _ hx
   have hlen:kvs.length=vs.length:=Paired.length r
   exact wpAny_truthy_dict hS m (by lia) ⟨H,I.tok _,by rw [n_s r];exact q⟩
 | _=>exact (show False from e).elim
theorem t_e(ha:PE X a ta)(he:∀ whole,isTrue a X.env whole=(do let v <-whole;standAt a.pos;holding [v] (truthy v))) :
  PT X a (fun σ H Q=>ta σ H fun x H'=>∃ k,TruV X.K x H' k/\Q k H'):=by
 intro pins s σ H Q I h
 exact isTrue_plain (thn (ha pins s σ H _ I h) fun v s1 ⟨x,H1,I1,r1,q1⟩=>tru_ok pins s1 σ H1 x v Q I1 r1 q1) (he _)
theorem vals1{x:V}{us:List Value}(r:Vals [x] us):∃ u,us=[u]/\RelV x u:=by
 cases r with
 | cons r1 r2=>cases r2;exact ⟨_,rfl,r1⟩
theorem vals2{x y:V}{us:List Value}(r:Vals [x,y] us):∃ u w',us=[u,w']/\RelV x u/\RelV y w':=by
 cases r with
 | cons r1 r2 =>
  cases r2 with
  | cons r3 r4=>cases r4;exact ⟨_,_,rfl,r1,r3⟩
theorem o_j:CallR X (.builtin "abs") (fun xs H Q=>∃ i,xs=[.int i]/\Q (.int (if i<0 then -i else i)) H):=by
 intro pins s σ H xs us Q I r h
 obtain ⟨i,rfl,q⟩:=h
 obtain ⟨u,rfl,t,rfl⟩:=vals1 r
 exact call_abs_int fun u tk=>⟨.int (if i<0 then -i else i),H,I.tok _,⟨_,rfl⟩,q⟩
theorem q_a(hc:X.calm=true):CallR X (.builtin "max") (fun xs H Q=>∃ i j,xs=[.int i,.int j]/\Q (.int (if j > i then j else i)) H):=by
 intro pins s σ H xs us Q I r h
 obtain ⟨i,j,rfl,q⟩:=h
 obtain ⟨u,w',rfl,⟨t,rfl⟩,⟨t',rfl⟩⟩:=vals2 r
 refine max_two_ints (I.ok.hd hc) fun h' tk k=>⟨_,H,I.kept k,?_,q⟩
 by_cases hj:j > i
 ·rw [if_pos hj,if_pos hj];exact ⟨_,rfl⟩
 ·rw [if_neg hj,if_neg hj];exact ⟨_,rfl⟩
theorem q_b(hc:X.calm=true):CallR X (.builtin "min") (fun xs H Q=>∃ i j,xs=[.int i,.int j]/\Q (.int (if j<i then j else i)) H):=by
 intro pins s σ H xs us Q I r h
 obtain ⟨i,j,rfl,q⟩:=h
 obtain ⟨u,w',rfl,⟨t,rfl⟩,⟨t',rfl⟩⟩:=vals2 r
 refine min_two_ints (I.ok.hd hc) fun h' tk k=>⟨_,H,I.kept k,?_,q⟩
 by_cases hj:j<i
 ·rw [if_pos hj,if_pos hj];exact ⟨_,rfl⟩
 ·rw [if_neg hj,if_neg hj];exact ⟨_,rfl⟩
theorem r_x:CallR X (.type "int") (fun xs H Q=>(∃ i,xs=[.int i]/\Q (.int i) H)\/∃ k,xs=[.bl k]/\Q (.int (if k then 1 else 0)) H):=by
 intro pins s σ H xs us Q I r h
 rcases h with ⟨i,rfl,q⟩ | ⟨k,rfl,q⟩
 ·obtain ⟨u,rfl,t,rfl⟩:=vals1 r
  exact call_int_int ⟨.int i,H,I,⟨_,rfl⟩,q⟩
 ·obtain ⟨u,rfl,r1⟩:=vals1 r
  cases r1
  exact call_int_bool ⟨.int (if k then 1 else 0),H,I.tok _,⟨_,rfl⟩,q⟩
def LenV(K:PySem.W.Frag)(x:V)(H:Hp)(n:Nat):Prop :=
 match x with
 | .str y=>y.length<=sizeLine/\n=y.length
 | .byt y=>y.size<=sizeLine/\n=y.size
 | .ref p=>(∃ xs,SqL K H p xs/\n=xs.length)\/∃ xs,SqT K H p xs/\n=xs.length
 | _=>False
theorem w_e:CallR X (.builtin "len") (fun xs H Q=>∃ x n,xs=[x]/\LenV X.K x H n/\Q (.int n) H):=by
 intro pins s σ H xs us Q I r h
 obtain ⟨x,n,rfl,e,q⟩:=h
 obtain ⟨u,rfl,rx⟩:=vals1 r
 have hl:=line63
 have hs:sizeLine=16777216:=sizeLine_eq
 cases x with
 | str y =>
  obtain ⟨t,rfl⟩:=rx
  obtain ⟨hy,e'⟩:y.length<=sizeLine/\n=y.length:=e
  subst e'
  exact len_str (by lia) ⟨.int _,H,I.tok _,⟨_,rfl⟩,q⟩
 | byt y =>
  obtain ⟨t,rfl⟩:=rx
  obtain ⟨hy,e'⟩:y.size<=sizeLine/\n=y.size:=e
  subst e'
  exact PySem.W.len_bytes (by lia) ⟨.int _,H,I.tok _,⟨_,rfl⟩,q⟩
 | ref p =>
  cases rx
  have e':(∃ xs,SqL X.K H p xs/\n=xs.length)\/∃ xs,SqT X.K H p xs/\n=xs.length:=e
  rcases e' with ⟨xs,hx,e'⟩ | ⟨xs,hx,e'⟩
  ·subst e'
   obtain ⟨its,r',pl,hz⟩:=I.list hx
   have hlen:=r'.length
   exact Calls.call_len_list pl.isList (by simp only [List.size_toArray];lia) ⟨.int xs.length,H,I.tok _,⟨_,by simp only [List.size_toArray];rw [hlen]⟩,q⟩
  ·subst e'
   obtain ⟨its,r',pl,hz⟩:=I.tuple hx
   have hlen:=r'.length
   exact len_tuple pl (by simp only [List.size_toArray];lia) ⟨.int xs.length,H,I.tok _,⟨_,by simp only [List.size_toArray];rw [hlen]⟩,q⟩
 | _=>exact (show False from e).elim
end
open PySem PySem.Spec PyProof.Rows
structure ObjM(h:Heap)(x dx C:Addr)(mA:Str->Option Value):Prop where
 obj:h.get? x=some (instObj C dx)
 ns:h.Ns1 dx mA
 ne:dx≠x
theorem l_r{h:Heap}{dx:Addr}{mA:Str->Option Value}(n:h.Ns1 dx mA):∃ od,h.get? dx=some od/\∀ name,lookIn name od=some (mA name):=by
 obtain ⟨o,es,ep,ho,hd,hk,_,hm⟩:=n
 refine ⟨o,ho,fun name=>?_⟩
 have e:=hm name
 unfold nsFind findBy at e
 rw [<-Array.find?_toList] at e
 unfold lookIn
 rw [hd]
 dsimp only
 split
 ·rename_i y q
  rw [q] at e
  exact congrArg some e
 ·rename_i q
  rw [q] at e
  have a:es.toList.any (·.refKey)=false:=by
   rw [List.any_eq_false]
   intro y hy
   obtain ⟨z,t,hkey⟩:=hk y (Array.mem_toList_iff.mp hy)
   simp [DictEntry.refKey,hkey]
  have a':¬es.toList.any (·.refKey)=true:=by rw [a];exact Bool.false_ne_true
  rw [if_neg a']
  exact congrArg some e
theorem ObjM.look{h:Heap}{x dx C:Addr}{mA:Str->Option Value}(I:ObjM h x dx C mA):∃ od,PySem.W.InstAt h x (instObj C dx) C (some od)/\∀ name,lookIn name od=some (mA name) :=
 let ⟨od,ho,hl⟩:=l_r I.ns
 ⟨od,⟨I.obj,rfl,rfl,ho⟩,hl⟩
section
variable {prog:Program} {w:World} {A:Around} {E:Value->Shared->Prop} {s:Shared} {K:PySem.W.Frag} {x dx C f:Addr} {mA:Str->Option Value} {name:Str} {v:Value}
theorem get_map{expr:Bool}{Q:Value->Shared->Prop}(X:K.In s.heap)(I:ObjM s.heap x dx C mA)(hg:plainGet K C name=true)(hh:hasDictIn K C=true)
  (ha:PySem.W.findIn K (.ref C) name=some none) (hv:mA name=some v) (hv':PySem.W.handedIn v=true) (h:Q v { s with toks:=s.toks+1 }) :
  wpAny (model prog w) A (getAttr (.ref x) name expr) Q E s:=by
 obtain ⟨od,J,hl⟩:=I.look
 exact PySem.W.get_value X J (plainGet_of hg).1 (PySem.W.findObj_own hh ha rfl (by rw [hl,hv])) hv' h
theorem get_meth{pl:Sem Bool}{Q:Value×List Value->Shared->Prop}(X:K.In s.heap)(I:ObjM s.heap x dx C mA)(hg:plainGet K C name=true)
  (hf:PySem.W.findIn K (.ref C) name=some (some (.ref f))) (ht:isFn K (.ref f)=true) (hv:mA name=none) (h:Q (.ref f,[.ref x]) s) :
  wpAny (model prog w) A (getMethod (.ref x) name pl) Q E s:=by
 obtain ⟨od,J,hl⟩:=I.look
 exact PySem.W.method_fn X J (plainGet_of hg).1 (plainGet_of hg).2 hf (beq_iff_eq.mp ht) (by show (lookIn name od).map (·.isSome)=some false;rw [hl,hv];rfl) h
theorem set_map{ns:List Str}{Q:Unit->Shared->Prop}(X:K.In s.heap)(I:ObjM s.heap x dx C mA)
  (hs:PySem.W.findIn K (.ref C) "__setattr__" = some (some (.builtin "object.__setattr__"))) (hp:plainOver K C=true) (ht:takerIn K C name=some none) (hh:hasDictIn K C=true)
  (hw:PySem.Within mA ns) (hsz:ns.length<=sizeLine)
  (h:∀ h',ObjM h' x dx C (fun y=>if y=name then some v else mA y)->Heap.SameBut dx s.heap h'->Q () { s with heap:=h',toks:=s.toks+2 }) :
  wpAny (model prog w) A (setAttr (.ref x) name v) Q E s:=by
 obtain ⟨od,J,hl⟩:=I.look
 refine PySem.W.set_plain X J hs (PySem.W.osa_open (s:={ s with toks:=s.toks+1 }) (r:=none) X J hp ht fun b=>?_)
 obtain ⟨cd,hc,hd'⟩:=PySem.W.any_some hh
 have hx:s.heap.get? x=some ⟨.ref C,some dx,.plain,#[]⟩:=I.obj
 refine wpAny_bind (wpAny_pure (wpAny_bind (wpAny_bind (wpAny_loadPart hx (wpAny_bind (PySem.W.Looks.here (s:={ s with toks:=s.toks+1 }) (PySem.W.looks_clsIn X hc) ?_))))))
 rw [hd']
 refine wpAny_pure (a:=some dx) (wpAny_bind (wpAny_pure (wpAny_bind ?_)))
 refine wpAny_nsSet1 (s:={ s with toks:=s.toks+1 }) I.ns fun h' hn2 hs2=>?_
 obtain ⟨oD,esD,epD,hoD,hdD,hcD⟩:=hn2.count (PySem.Within.cons name v hw)
 refine wpAny_bind (wpAny_lookBehind hoD (by rw [hdD];exact pastItsLine_dict (Nat.le_trans hcD (by rw [List.length_cons];lia))) ?_)
 exact wpAny_pure (h _ ⟨(hs2.2 _ (Ne.symm I.ne)).trans I.obj,hn2,I.ne⟩ hs2)
theorem make_map{R:Result->Shared->Prop}{vs:List Value}{kw:List (Str×Value)}(X:K.In s.heap)(hm:makesIn K C=true)
  (hi:PySem.W.findIn K (.ref C) "__init__" = some (some (.ref f))) (hf:typeIn K (.ref f)=some (.type "function"))
  (h:codeAny (model prog w) (A.under (.builtin "type.__call__" ⟨.ref C::vs,kw⟩)) (.call (.ref f) ⟨.ref (s.heap.objs.size+1)::vs,kw⟩) (PySem.W.InitBack (s.heap.objs.size+1) R)
   { s with heap:=(s.heap.push emptyDict).push (instObj C s.heap.objs.size) }) :
  codeAny (model prog w) A (.call (.ref C) ⟨vs,kw⟩) R s:=by
 obtain ⟨hh,g,d,t,os⟩:=s
 exact PySem.W.make_core (PySem.W.makes_of X hm) (PySem.W.looks_findIn X hi) (fun self=>PySem.W.bind_fn X self hf) (.inl rfl) h
end
def putF(f:Str)(v:V):List (Str×V)->List (Str×V)
 | []=>[(f,v)]
 | (g,x)::r=>if g=f then (g,v)::r else (g,x)::putF f v r
theorem t_s(f g:Str)(v:V):∀ fs:List (Str×V),(putF f v fs).lookup g=if g=f then some v else fs.lookup g
 | []=>by
  show List.lookup g [(f,v)]=_
  by_cases h:g=f
  ·have hb:(g == f)=true:=beq_iff_eq.mpr h
   simp only [List.lookup,hb,if_pos h]
  ·have hb:(g == f)=false:=beq_eq_false_iff_ne.mpr h
   simp only [List.lookup,hb,if_neg h]
 | (k,x)::r=>by
  have ih:=t_s f g v r
  rw [show putF f v ((k,x)::r)=(if k=f then (k,v)::r else (k,x)::putF f v r) from rfl]
  by_cases hk:k=f
  ·rw [if_pos hk]
   by_cases h:g=k
   ·have hb:(g == k)=true:=beq_iff_eq.mpr h
    simp only [List.lookup,hb,if_pos (h.trans hk)]
   ·have hb:(g == k)=false:=beq_eq_false_iff_ne.mpr h
    simp only [List.lookup,hb,if_neg (fun e:g=f=>h (e.trans hk.symm))]
  ·rw [if_neg hk]
   by_cases h:g=k
   ·have hb:(g == k)=true:=beq_iff_eq.mpr h
    simp only [List.lookup,hb,if_neg (fun e:g=f=>hk (h.symm.trans e))]
   ·have hb:(g == k)=false:=beq_eq_false_iff_ne.mpr h
    simp only [List.lookup,hb]
    exact ih
theorem t_p(f:Str)(v:V):∀ fs:List (Str×V),f∈(putF f v fs).map (·.1)/\∀ g,g∈fs.map (·.1)->g∈(putF f v fs).map (·.1)
 | []=>⟨by simp [putF],fun g h=>by simp at h⟩
 | (k,x)::r=>by
  obtain ⟨i1,i2⟩:=t_p f v r
  rw [show putF f v ((k,x)::r)=(if k=f then (k,v)::r else (k,x)::putF f v r) from rfl]
  by_cases hk:k=f
  ·rw [if_pos hk]
   subst hk
   exact ⟨by simp,fun g h=>by simpa using h⟩
  ·rw [if_neg hk]
   refine ⟨?_,fun g h=>?_⟩
   ·rw [List.map_cons]
    exact List.mem_cons_of_mem _ i1
   ·rw [List.map_cons] at h ⊢
    rcases List.mem_cons.mp h with e | e
    ·exact List.mem_cons.mpr (.inl e)
    ·exact List.mem_cons_of_mem _ (i2 g e)
theorem t_q(f:Str)(v:V):∀ fs:List (Str×V),(putF f v fs).length<=fs.length+1
 | []=>by simp [putF]
 | (k,x)::r=>by
  have ih:=t_q f v r
  rw [show putF f v ((k,x)::r)=(if k=f then (k,v)::r else (k,x)::putF f v r) from rfl]
  by_cases hk:k=f
  ·rw [if_pos hk,List.length_cons,List.length_cons];lia
  ·rw [if_neg hk,List.length_cons,List.length_cons];lia
theorem RelO.some_of{v:V}{o:Option Value}(r:RelO (some v) o):∃ u,o=some u/\RelV v u:=by
 cases o with
 | none=>exact (show False from r).elim
 | some u=>exact ⟨u,rfl,r⟩
theorem RelO.none_of{o:Option Value}(r:RelO none o):o=none:=by
 cases o with
 | none=>rfl
 | some u=>exact (show False from r).elim
theorem l_k{v:V}{u:Value}(r:RelV v u):PySem.W.handedIn u=true:=by
 cases v with
 | non=>cases (show u=Value.none from r);rfl
 | bl b=>cases (show u=Value.bool b from r);rfl
 | int i=>obtain ⟨t,e⟩:=(show ∃ t,u=Value.int i t from r);cases e;rfl
 | str x=>obtain ⟨t,e⟩:=(show ∃ t,u=Value.str x t from r);cases e;rfl
 | byt b=>obtain ⟨t,e⟩:=(show ∃ t,u=Value.bytes b t from r);cases e;rfl
 | flt b=>obtain ⟨t,e⟩:=(show ∃ t,u=Value.float b t from r);cases e;rfl
 | ref a=>cases (show u=Value.ref a from r);rfl
 | ty n=>cases (show u=Value.type n from r);rfl
section
variable {P:Program} {w:World} {H H':Hp} {h h':Heap} {a C dx:Addr} {fs fs':List (Str×V)}
theorem t_n(hok:HOk P w H h)(e:H a=some (.ins C dx fs)):∃ mA,ObjM h a dx C mA/\(∀ f,RelO (fs.lookup f) (mA f))/\PySem.Within mA (fs.map (·.1))/\fs.length<=1000/\H dx=some (.own a):=by
 obtain ⟨d,z,ne,ob,mA,n,r,q⟩:=(show ObjOk P w H h a (.ins C dx fs) from hok a _ e)
 exact ⟨mA,⟨ob,n,ne⟩,r,q,z,d⟩
end
structure Cls(K:PySem.W.Frag)(C:Addr):Prop where
 pg:plainGet K C Str.empty=true
 hd:hasDictIn K C=true
 po:plainOver K C=true
 sa:PySem.W.findIn K (.ref C) "__setattr__" = some (some (.builtin "object.__setattr__"))
theorem Cls.get{K:PySem.W.Frag}{C:Addr}(c:Cls K C)(f:Str):plainGet K C f=true:=c.pg
def NoAttr(K:PySem.W.Frag)(C:Addr)(f:Str):Prop:=PySem.W.findIn K (.ref C) f=some none
theorem NoAttr.taker{K:PySem.W.Frag}{C:Addr}{f:Str}(n:NoAttr K C f):takerIn K C f=some none:=by
 unfold takerIn
 rw [show PySem.W.findIn K (.ref C) f=some none from n]
 rfl
structure Meth(K:PySem.W.Frag)(C:Addr)(m:Str)(f:Addr):Prop where
 at_:PySem.W.findIn K (.ref C) m=some (some (.ref f))
 fn:isFn K (.ref f)=true
 kp:keepIn K (.ref f)=true
section
variable {X:Cx} {pins:List (Addr×Obj)} {σ:St} {H:Hp} {s:Shared} {a C dx:Addr} {fs:List (Str×V)} {f:Str} {v:V} {A:Around} {E:Value->Shared->Prop}
theorem n_q{b:Bool}{Q:Value->Shared->Prop}(I:Inv X pins σ H s)(e:H a=some (.ins C dx fs))(c:Cls X.K C)(n:NoAttr X.K C f)(l:fs.lookup f=some v)
  (h:∀ u s',Inv X pins σ H s'->RelV v u->Q u s'):wpAny (model X.prog X.w) A (getAttr (.ref a) f b) Q E s:=by
 obtain ⟨mA,O,r,_,_,_⟩:=t_n I.hok e
 obtain ⟨u,hu,ru⟩:=RelO.some_of (v:=v) (o:=mA f) (by rw [<-l];exact r f)
 exact get_map I.kIn O (c.get f) c.hd n hu (l_k ru) (h u _ (I.tok _) ru)
theorem n_r{m:Str}{g:Addr}{pl:Sem Bool}{Q:Value×List Value->Shared->Prop}(I:Inv X pins σ H s)(e:H a=some (.ins C dx fs))(c:Cls X.K C)(k:Meth X.K C m g)(l:fs.lookup m=none)
  (h:Q (.ref g,[.ref a]) s):wpAny (model X.prog X.w) A (getMethod (.ref a) m pl) Q E s:=by
 obtain ⟨mA,O,r,_,_,_⟩:=t_n I.hok e
 have hn:mA m=none:=RelO.none_of (by rw [<-l];exact r m)
 exact get_meth I.kIn O (c.get m) k.at_ k.fn hn h
theorem m_l{y:V}{u:Value}{Q:Unit->Shared->Prop}(I:Inv X pins σ H s)(e:H a=some (.ins C dx fs))(c:Cls X.K C)(n:NoAttr X.K C f)(hl:fs.length<1000)(ry:RelV y u)
  (h:∀ s',Inv X pins σ (upd H a (.ins C dx (putF f y fs))) s'->Q () s'):wpAny (model X.prog X.w) A (setAttr (.ref a) f u) Q E s:=by
 obtain ⟨mA,O,r,wi,_,ho⟩:=t_n I.hok e
 have hz:(fs.map (·.1)).length<=sizeLine:=by rw [List.length_map,sizeLine_eq];lia
 refine set_map I.kIn O c.sa c.po n.taker c.hd wi hz fun h' O' sb=>h _ ?_
 have hd:∃ o,h'.get? dx=some o:=let ⟨o,_,_,e',_⟩:=O'.ns;⟨o,e'⟩
 refine I.write (x:=a) (e:=dx) (by rw [e];exact True.intro) (.inr ho) (fun b q hb z=>(sb.2 b hb).trans z) hd ?_
 refine ⟨by rw [z_m O.ne];exact ho,?_,O.ne,O'.obj,_,O'.ns,fun g=>?_,fun g hg=>?_⟩
 ·have:=t_q f y fs;lia
 ·show RelO ((putF f y fs).lookup g) (if g=f then some u else mA g)
  rw [t_s]
  by_cases q:g=f
  ·rw [if_pos q,if_pos q];exact ry
  ·rw [if_neg q,if_neg q];exact r g
 ·by_cases q:g=f
  ·rw [q];exact (t_p f y fs).1
  ·refine (t_p f y fs).2 g (wi g fun z=>hg ?_)
   show (if g=f then some u else mA g)=none
   rw [if_neg q];exact z
theorem Inv.made(I:Inv X pins σ H s):Inv X pins σ (upd (upd H s.heap.objs.size (.own (s.heap.objs.size+1))) (s.heap.objs.size+1) (.ins C s.heap.objs.size []))
  { s with heap:=(s.heap.push emptyDict).push (instObj C s.heap.objs.size) }:=by
 have e1:(s.heap.push emptyDict).get? s.heap.objs.size=some emptyDict:=Heap.get?_push_size s.heap rfl
 have e2:((s.heap.push emptyDict).push (instObj C s.heap.objs.size)).get? (s.heap.objs.size+1)=some (instObj C s.heap.objs.size):=by
  have:=Heap.get?_push_size (s.heap.push emptyDict) (o:=instObj C s.heap.objs.size) rfl
  rwa [Heap.size_push] at this
 have e3:(s.heap.push emptyDict).Ns s.heap.objs.size (fun _=>none):=⟨emptyDict,#[],_,e1,rfl,(fun e he=>absurd he (by simp)),fun _=>rfl⟩
 have I1:=I.laid (a:=s.heap.objs.size) (o:=.own (s.heap.objs.size+1)) (h':=s.heap.push emptyDict) (t':=s.toks) (fun b u q=>Heap.get?_push_of_some _ q) (Nat.le_refl _) ⟨_,e1⟩
 refine I1.laid (a:=s.heap.objs.size+1) (o:=.ins C s.heap.objs.size []) (t':=s.toks) (fun b u q=>Heap.get?_push_of_some _ q) (Nat.le_of_eq (Heap.size_push _ _)) ?_
 have ne:s.heap.objs.size≠s.heap.objs.size+1:=Nat.ne_of_lt (Nat.lt_succ_self _)
 refine ⟨by rw [z_m ne,z_d],Nat.zero_le _,ne,e2,fun _=>none,(Heap.Ns1.of_empty e3).at fun o q=>Heap.get?_push_of_some _ q,fun _=>True.intro,fun y hy=>absurd rfl hy⟩
theorem attr_of{prog:Program}{w:World}{env:Env}{e:Expr}{f:Str}{pos:Pos}{s:Shared}{Q:Value->Shared->Prop}(hb:attributeBase e f env (eval e env)=eval e env)
  (h:wpAny (model prog w) A (eval e env) (fun o s₁=>wpAny (model prog w) A (getAttr o f true) Q E s₁) E s):wpAny (model prog w) A (eval (.Attribute e f pos) env) Q E s :=
 Attribute_any_ h (by rw [arm_eval_Attribute,hb])
end
def tFld(K:PySem.W.Frag)(ta:TE)(f:Str):TE:=fun σ H Q=>ta σ H fun x H1=>∃ a C dx fs v,x = .ref a/\H1 a=some (.ins C dx fs)/\Cls K C/\NoAttr K C f/\fs.lookup f=some v/\Q v H1
def sFld(K:PySem.W.Frag)(ta tv:TE)(f:Str):TS:=fun D σ H=>tv σ H fun y H1=>ta σ H1 fun x H2=>∃ a C dx fs,x = .ref a/\H2 a=some (.ins C dx fs)/\Cls K C/\NoAttr K C f/\fs.length<1000 /\
 D.nx σ (upd H2 a (.ins C dx (putF f y fs)))
section
variable {X:Cx} {o e value:Expr} {f:Str} {pos pos' tpos:Pos} {ta tv:TE}
theorem pe_fld(he:PE X e ta)(hb:attributeBase e f X.env (eval e X.env)=eval e X.env):PE X (.Attribute e f pos) (tFld X.K ta f):=by
 intro pins s σ H Q I h
 refine attr_of hb (thn (he pins s σ H _ I h) fun u s1 ⟨x,H1,I1,rx,a,C,dx,fs,v,ex,ea,c,n,l,q⟩=>?_)
 subst ex
 obtain rfl:u=Value.ref a:=rx
 exact n_q I1 ea c n l fun u' s2 I2 ru=>⟨v,H1,I2,ru,q⟩
theorem ps_fld(ha:PE X o ta)(hv:PE X value tv)(hs:swapsWith value (some (.Attribute o f pos')) pos.line X.env=pure false):PS X (.Assign [.Attribute o f pos'] value pos) (sFld X.K ta tv f):=by
 intro pins s σ H D I h
 refine plainObj_wpAny_Assign_Attribute (thn (hv pins s σ H _ I h) fun u s1 ⟨y,H1,I1,ry,q⟩=>thn (ha pins s1 σ H1 _ I1 q) fun ov s2 ⟨x,H2,I2,rx,a,C,dx,fs,ex,ea,c,n,l,q2⟩=>?_) hs
 subst ex
 obtain rfl:ov=Value.ref a:=rx
 exact m_l I2 ea c n l ry fun s3 I3=>⟨σ,_,I3,q2⟩
end
section
variable {X:Cx} {pins:List (Addr×Obj)} {σ:St} {H:Hp} {s:Shared} {A:Around} {E:Value->Shared->Prop} {Q:Value->Shared->Prop} {c:Value} {b:Bool}
inductive TyOf (K:PySem.W.Frag) (H:Hp):V->Value->Prop where
 | non:TyOf K H .non (.type "NoneType")
 | bl (x:Bool):TyOf K H (.bl x) (.type "bool")
 | int (i:Int):TyOf K H (.int i) (.type "int")
 | str (x:Str):TyOf K H (.str x) (.type "str")
 | flt (x:UInt64):TyOf K H (.flt x) (.type "float")
 | lst {a:Addr} {xs:List V} (e:H a=some (.lst xs)):TyOf K H (.ref a) (.type "list")
 | frz {a:Addr} {o:Obj} {xs:List V} (e:H a=some (.frz o (.lst xs))):TyOf K H (.ref a) (.type "list")
 | tup {a:Addr} {xs:List V} (e:H a=some (.tup xs)):TyOf K H (.ref a) (.type "tuple")
 | dK {a:Addr} {kvs:List (Key×V)} (e:H a=some (.dK kvs)):TyOf K H (.ref a) (.type "dict")
 | dT {a:Addr} {kvs:List (List Key×V)} (e:H a=some (.dT kvs)):TyOf K H (.ref a) (.type "dict")
 | ins {a C dx:Addr} {fs:List (Str×V)} (e:H a=some (.ins C dx fs)) (cl:Cls K C) (ha:PySem.W.findIn K (.ref C) "__class__" = some (some (.builtin "object.__class__")))
   (hn:specialIn K (.builtin "object.__class__") "__get__" = some (some (.builtin "getset_descriptor.__get__"))) (htk:PySem.W.takesIn K (.builtin "object.__class__")=some true)
   (hm:PySem.W.mroIn K C (.type "object")=some true):TyOf K H (.ref a) (.ref C)
theorem l_n{x:V}{u t:Value}(I:Inv X pins σ H s)(rx:RelV x u)(ty:TyOf X.K H x t)(e:PySem.W.kitOne X.K t c=some b)(h:∀ tk,Q (.bool b) { s with toks:=tk }) :
  wpAny (model X.prog X.w) A (call (.builtin "isinstance") [u,c]) Q E s:=by
 cases ty with
 | non=>cases (show u=Value.none from rx);exact PySem.W.kia_one PySem.W.kitx_none I.kIn True.intro e (fun z=>nomatch z) h
 | bl y=>cases (show u=Value.bool y from rx);exact PySem.W.kia_one PySem.W.kitx_bool I.kIn True.intro e (fun z=>nomatch z) h
 | int i=>obtain ⟨t,q⟩:=(show ∃ t,u=Value.int i t from rx);cases q;exact PySem.W.kia_one PySem.W.kitx_int I.kIn True.intro e (fun z=>nomatch z) h
 | str y=>obtain ⟨t,q⟩:=(show ∃ t,u=Value.str y t from rx);cases q;exact PySem.W.kia_one PySem.W.kitx_str I.kIn True.intro e (fun z=>nomatch z) h
 | flt y=>obtain ⟨t,q⟩:=(show ∃ t,u=Value.float y t from rx);cases q;exact PySem.W.kia_one PySem.W.kitx_float I.kIn True.intro e (fun z=>nomatch z) h
 | @lst a xs ea =>
  cases (show u=Value.ref a from rx)
  obtain ⟨_,_,n,_,h1⟩:=(show ObjOk X.prog X.w H s.heap a (.lst xs) from I.hok a _ ea)
  exact PySem.W.kia_one kitx_list I.kIn ⟨_,h1,rfl⟩ e (fun z=>nomatch z) h
 | @frz a ob xs ea =>
  cases (show u=Value.ref a from rx)
  obtain ⟨_,_,_,n,_,h1⟩:=(show ObjOk X.prog X.w H s.heap a (.frz ob (.lst xs)) from I.hok a _ ea)
  exact PySem.W.kia_one kitx_list I.kIn ⟨_,h1,rfl⟩ e (fun z=>nomatch z) h
 | @tup a xs ea =>
  cases (show u=Value.ref a from rx)
  obtain ⟨_,_,_,p⟩:=(show ObjOk X.prog X.w H s.heap a (.tup xs) from I.hok a _ ea)
  obtain ⟨o,h1,h2,_⟩:=p
  exact PySem.W.kia_one PySem.W.kitx_tuple I.kIn ⟨o,h1,h2⟩ e (fun z=>nomatch z) h
 | @dK a kvs ea =>
  cases (show u=Value.ref a from rx)
  obtain ⟨_,_,vs,_,p⟩:=(show ObjOk X.prog X.w H s.heap a (.dK kvs) from I.hok a _ ea)
  obtain ⟨o,es,ep,h1,h2,_⟩:=p
  exact PySem.W.kia_one kitx_dict I.kIn ⟨o,h1,h2.1⟩ e (fun z=>nomatch z) h
 | @dT a kvs ea =>
  cases (show u=Value.ref a from rx)
  obtain ⟨_,_,xs,_,o,es,ep,h1,h2,_⟩:=(show ObjOk X.prog X.w H s.heap a (.dT kvs) from I.hok a _ ea)
  exact PySem.W.kia_one kitx_dict I.kIn ⟨o,h1,h2.1⟩ e (fun z=>nomatch z) h
 | @ins a C dx fs ea cl ha hn htk hm =>
  cases (show u=Value.ref a from rx)
  obtain ⟨mA,O,_⟩:=t_n I.hok ea
  obtain ⟨od,J,_⟩:=O.look
  exact PySem.W.kia_one (PySem.W.kitx_own (cl.get _) cl.hd ha hn htk hm) I.kIn J e (fun z=>nomatch z) h
end
open PySem PySem.Spec PyProof.Rows
structure Room(k:Nat)(A:Around):Prop where
 hd:A.handled=none
 dp:A.depth+3*k+5<recursionLimit
 un:A.units+16*k+200<cLine
theorem Room.mono{j k:Nat}{A:Around}(r:Room k A)(h:j<=k):Room j A:=⟨r.hd,by have:=r.dp;lia,by have:=r.un;lia⟩
theorem Room.deeper{k:Nat}{A:Around}(r:Room (k+1) A)(env:Env):Room k (A.deeper env) :=
 ⟨r.hd,by have:=r.dp;show A.depth+1+3*k+5<_;lia,by have:=r.un;show A.units+3+16*k+200<_;lia⟩
theorem n_v{A:Around}{C:Addr}{us:List Value}{kw:List (Str×Value)}:(A.under (.builtin "type.__call__" ⟨.ref C::us,kw⟩)).depth=A.depth+1:=by
 first | rfl | simp [Around.under,Code.weight,Code.isCreation,Code.isGuard,Code.isCaller,Code.frames,Code.isFrame,guardIds]
theorem n_w{A:Around}{C:Addr}{us:List Value}{kw:List (Str×Value)}:(A.under (.builtin "type.__call__" ⟨.ref C::us,kw⟩)).units=A.units+1:=by
 first | rfl | simp [Around.under,Code.cUnits,Code.frames,Code.isFrame]
theorem Room.make{k:Nat}{A:Around}(r:Room (k+1) A)(C:Addr)(us:List Value)(kw:List (Str×Value)):Room k (A.under (.builtin "type.__call__" ⟨.ref C::us,kw⟩)) :=
 ⟨r.hd,by have:=r.dp;rw [n_v];lia,by have:=r.un;rw [n_w];lia⟩
theorem Room.depth{k:Nat}{A:Around}(r:Room k A):A.depth<recursionLimit:=by have:=r.dp;lia
theorem Room.units{k:Nat}{A:Around}(r:Room k A):A.units+64<cLine:=by have:=r.un;lia
def tNil:TA:=fun _ H Q=>Q [] H
def tCons(ta:TE)(tr:TA):TA:=fun σ H Q=>ta σ H fun x H1=>tr σ H1 fun xs H2=>Q (x::xs) H2
section
variable {X:Cx} {e:Expr} {es:List Expr} {te:TE} {t:TA} {pos:Pos}
theorem z_b:PA X [] tNil:=fun _ _ _ _ H Q I h=>Calls.spliced_nil ⟨[],H,I,.nil,h⟩
theorem z_a(ha:PE X e te)(hr:PA X es t)(hs:starEach (e::es) X.env=(false,eval e X.env)::starEach es X.env:=by rfl):PA X (e::es) (tCons te t):=by
 intro pos pins s σ H Q I h
 rw [hs]
 show wpAny _ _ (spliced ((false,eval e X.env)::backTo pos (starEach es X.env))) _ _ s
 refine Calls.spliced_cons (thn (ha pins s σ H _ I h) fun u s1 ⟨x,H1,I1,r1,q1⟩=>?_)
 exact thn (hr pos pins s1 σ H1 _ I1 q1) fun us s2 ⟨xs,H2,I2,r2,q2⟩=>⟨x::xs,H2,I2,.cons r1 r2,q2⟩
def tTup(t:TA):TE:=fun σ H Q=>t σ H fun xs H1=>xs.length<=sizeLine/\∀ p,H1 p=none->Q (.ref p) (upd H1 p (.tup xs))
def tLst(t:TA):TE:=fun σ H Q=>t σ H fun xs H1=>xs.length<=sizeLine/\∀ p,H1 p=none->Q (.ref p) (upd H1 p (.lst xs))
theorem y_c{x1}(h:PA X es t):PE X (.Tuple es x1 pos) (tTup t):=by
 intro pins s σ H Q I hq
 refine wpAny_Tuple_spliced (thn (h pos pins s σ H _ I hq) fun us s1 ⟨xs,H1,I1,r,z,q⟩=>⟨by rw [<-r.length];exact z,?_⟩)
 have hf:H1 s1.heap.objs.size=none:=I1.hok.fresh (Nat.le_refl _)
 refine ⟨.ref s1.heap.objs.size,upd H1 s1.heap.objs.size (.tup xs),I1.laid (t':=s1.toks) (fun b u e=>Heap.get?_push_of_some _ e) (Nat.le_refl _) ?_,rfl,q _ hf⟩
 exact ⟨z,us,r,⟨_,Heap.get?_push_size _ rfl,rfl,_,rfl⟩⟩
theorem z_y(h:PA X es t):PE X (.List es pos) (tLst t):=by
 intro pins s σ H Q I hq
 refine wpAny_List_spliced (thn (h pos pins s σ H _ I hq) fun us s1 ⟨xs,H1,I1,r,z,q⟩=>⟨by rw [<-r.length];exact z,?_⟩)
 have hf:H1 s1.heap.objs.size=none:=I1.hok.fresh (Nat.le_refl _)
 refine ⟨.ref s1.heap.objs.size,upd H1 s1.heap.objs.size (.lst xs),I1.laid (t':=s1.toks) (fun b u e=>Heap.get?_push_of_some _ e) (Nat.le_refl _) ?_,rfl,q _ hf⟩
 exact ⟨z,us,0,r,Heap.get?_push_size _ rfl⟩
end
abbrev Sp:=List V->Hp->VK->XK->Prop
abbrev CXT:=List Env->Hp->Shared->XK->Value->Shared->Prop
structure Env0(P:Program)(w:World)(K:PySem.W.Frag)(mg:Str->Option Value)(base:Heap)(A:Around)(outer:List Env)(s:Shared)(H:Hp):Prop where
 frames:A.frames=some outer
 gd:A.guards=some []
 mod:Mod K mg base
 bs:∀ b o,base.get? b=some o->s.heap.get? b=some o/\H b=none
 bsz:base.objs.size<=s.heap.objs.size
 funs:s.heap.FunFrames base outer
 frf:∀ b∈frs outer,H b=none
 hok:HOk P w H s.heap
 bare:AllBare s.gens
def CE(outer:List Env)(P:Program)(w:World)(H:Hp)(s:Shared)(Q:VK)(u:Value)(s':Shared):Prop :=
 ∃ v H',s'.os=s.os/\AllBare s'.gens/\Un (frs outer) [] H H' s.heap s'.heap/\HOk P w H' s'.heap/\RelV v u/\Q v H'
def CR(CX:CXT)(outer:List Env)(P:Program)(w:World)(H:Hp)(s:Shared)(Q:VK)(E:XK)(r:Result)(s':Shared):Prop :=
 match r with
 | .ok (.ret u)=>CE outer P w H s Q u s'
 | .ok _=>False
 | .error e=>CX outer H s E e s'
structure FnOk(P:Program)(w:World)(K:PySem.W.Frag)(mg:Str->Option Value)(base:Heap)(CX:CXT)(k:Nat)(f:Addr)(fd:FuncData)(ps:List Str)(sp:Sp):Prop where
 len:∀ vs H Q E,sp vs H Q E->vs.length=ps.length
 run:∀ (A:Around) (outer:List Env) (s:Shared) (H:Hp) (args:Args) (us:List Value) (vs:List V) (Q:VK) (E:XK),Room k A->Env0 P w K mg base A outer s H->BindsTo s fd args (ps.zip us)->Vals vs us->sp vs H Q E ->
  codeAny (model P w) A (.call (.ref f) args) (CR CX outer P w H s Q E) s
theorem Env0.make{P:Program}{w:World}{K:PySem.W.Frag}{mg:Str->Option Value}{base:Heap}{A:Around}{outer:List Env}{s:Shared}{H:Hp}(e:Env0 P w K mg base A outer s H)(C:Addr)(us:List Value)(kw:List (Str×Value)) :
  Env0 P w K mg base (A.under (.builtin "type.__call__" ⟨.ref C::us,kw⟩)) outer s H:=⟨by first | exact e.frames | (simpa [Around.under,Code.envs,Code.isFrame,pushEnvs] using e.frames),by first | exact e.gd | (simpa [Around.under,Code.isGuard,guardIds] using e.gd),e.mod,e.bs,e.bsz,e.funs,e.frf,e.hok,e.bare⟩
section
variable {X:Cx} {pins:List (Addr×Obj)} {σ:St} {H:Hp} {s s':Shared}
theorem Inv.env0(I:Inv X pins σ H s):Env0 X.prog X.w X.K X.mg X.base X.A X.stack s H :=
 ⟨I.ok.frames,I.ok.gd,I.ok.mod,I.bs,Nat.le_trans I.ok.bsz I.sz,I.stack,I.stkFree,I.hok,I.bare⟩
theorem Inv.after{Q:VK}{u:Value}(I:Inv X pins σ H s)(h:CE X.stack X.prog X.w H s Q u s'):EP X pins σ Q u s':=by
 obtain ⟨v,H',os,bare,un,hok,r,q⟩:=h
 obtain ⟨hh,g,d,t,os'⟩:=s'
 obtain rfl:os'=s.os:=os
 exact ⟨v,H',I.call (h':=hh) (g':=g) (d':=d) (t':=t) (ch:=[]) un hok bare (fun b z=>absurd z (by simp)),r,q⟩
end
def tCall(sp:Sp)(dvs:List V)(E:XK)(t:TA):TE:=fun σ H Q=>t σ H fun vs H1=>sp (vs++dvs) H1 Q E
def tMeth(C:Addr)(m:Str)(sp:Sp)(dvs:List V)(E:XK)(ta:TE)(t:TA):TE:=fun σ H Q=>ta σ H fun x H1=>∃ a dx fs,x = .ref a/\H1 a=some (.ins C dx fs)/\fs.lookup m=none /\
 t σ H1 fun vs H2=>sp (x::(vs++dvs)) H2 Q E
def tMake(C:Addr)(sp:Sp)(dvs:List V)(E:XK)(t:TA):TE:=fun σ H Q=>t σ H fun vs H1=>∀ x dx,H1 x=none->H1 dx=none->dx≠x ->
 sp (.ref x::(vs++dvs)) (upd (upd H1 dx (.own x)) x (.ins C dx [])) (fun v H2=>v = .non/\Q (.ref x) H2) E
def Binds(K:PySem.W.Frag)(fd:FuncData)(ps:List Str)(ds:List Value):Prop :=
 ∀ (s:Shared) (us:List Value),K.In s.heap->(us++ds).length=ps.length->BindsTo s fd ⟨us,[]⟩ (ps.zip (us++ds))
theorem Binds.all{K:PySem.W.Frag}{fd:FuncData}{ps:List Str}(h:∀ us:List Value,us.length=ps.length->bindArgs fd ⟨us,[]⟩=pure (ps.zip us)):Binds K fd ps []:=fun s us _ hl=>by
 rw [List.append_nil] at hl ⊢
 exact .of_eq (h us hl)
def Passes(CX:CXT)(X:Cx)(E:XK):Prop:=∀ (pins:List (Addr×Obj)) (σ:St) (H:Hp) (s:Shared) (e:Value) (s':Shared),Inv X pins σ H s->CX X.stack H s E e s'->X.xe e s'
section
variable {X:Cx} {CX:CXT} {k:Nat} {f C:Addr} {fd:FuncData} {ps:List Str} {sp:Sp} {dvs:List V} {ds:List Value} {E:XK} {x m:Str} {p pos apos:Pos} {e o:Expr} {es:List Expr} {ta:TE} {t:TA}
theorem run_fn{pins:List (Addr×Obj)}{σ:St}{H:Hp}{s:Shared}{Q:VK}{us:List Value}{vs:List V}(F:FnOk X.prog X.w X.K X.mg X.base CX k f fd ps sp)(hr:Room k X.A)(hb:Binds X.K fd ps ds)(hd:Vals dvs ds)(hx:Passes CX X E)
  (I:Inv X pins σ H s) (r:Vals vs us) (h:sp (vs++dvs) H Q E):wpAny (model X.prog X.w) X.A (call (.ref f) us) (EP X pins σ Q) X.xe s:=by
 have r2:Vals (vs++dvs) (us++ds):=r.append hd
 have hl:(us++ds).length=ps.length:=by rw [<-r2.length];exact F.len _ _ _ _ h
 refine wpAny_call (codeAny_mono (F.run X.A X.stack s H ⟨us,[]⟩ (us++ds) (vs++dvs) Q E hr I.env0 (hb s us I.kIn hl) r2 h) fun r s' hq=>?_)
 cases r with
 | error e=>exact hx pins σ H s e s' I hq
 | ok fl =>
  cases fl with
  | ret u=>exact I.after hq
  | next=>exact False.elim hq
  | brk=>exact False.elim hq
  | cont=>exact False.elim hq
theorem z_j(F:FnOk X.prog X.w X.K X.mg X.base CX k f fd ps sp)(hr:Room k X.A)(hg:Gl X x)(hm:X.mg x=some (.ref f))(hk:keepIn X.K (.ref f)=true)(hb:Binds X.K fd ps ds)(hd:Vals dvs ds)(hx:Passes CX X E)
  (ha:PA X (e::es) t) (hdb:(x == ("__debug__" : Str))=false:=by decide) (he:starEach (e::es) X.env=(false,eval e X.env)::starEach es X.env:=by rfl) (hpl:(backTo pos (starEach es X.env)).any (·.1)=false:=by rfl) :
  PE X (.Call (.Name x p) (e::es) [] pos) (tCall sp dvs E t):=by
 intro pins s σ H Q I h
 refine wpAny_Call_Name_kw (w_t I hg hm ?_ hdb)
 refine callWith_K (h₀:=X.base) I.ok.mod.kin hk (thn (ha pos pins s σ H _ I h) fun us s1 ⟨vs,H1,I1,r,q⟩=>⟨I1.kIn,?_⟩) he hpl
 exact run_fn F hr hb hd hx I1 r q
theorem x_p{pl:Sem Bool}(he:PE X o ta)(c:Cls X.K C)(hm:Meth X.K C m f)(F:FnOk X.prog X.w X.K X.mg X.base CX k f fd ps sp)(hr:Room k X.A)(hb:Binds X.K fd ps ds)(hd:Vals dvs ds)(hx:Passes CX X E)(ha:PA X (e::es) t)
  (hst:starEach (e::es) X.env=(false,eval e X.env)::starEach es X.env:=by rfl) (hpl:(backTo pos (starEach es X.env)).any (·.1)=false:=by rfl)
  (ht:eval (.Call (.Attribute o m apos) (e::es) [] pos) X.env=(do
   let ov <-eval o X.env
   standAt apos.atName
   let (f,first) <-holding [ov] (getMethod ov m pl)
   callWith pos f first (backTo pos (starEach (e::es) X.env)) (backToKw pos (keywordEach [] X.env))):=by rfl) :
  PE X (.Call (.Attribute o m apos) (e::es) [] pos) (tMeth C m sp dvs E ta t):=by
 intro pins s σ H Q I h
 refine PySem.W.methodCall_KW (pl:=pl) (thn (he pins s σ H _ I h) fun u s1 ⟨x,H1,I1,rx,a,dx,fs,ex,ea,l,q⟩=>?_) ht
 subst ex
 obtain rfl:u=Value.ref a:=rx
 refine n_r I1 ea c hm l ?_
 refine callWith_K (first:=[.ref a]) (h₀:=X.base) I.ok.mod.kin hm.kp (thn (ha pos pins s1 σ H1 _ I1 q) fun us s2 ⟨vs,H2,I2,r,q2⟩=>⟨I2.kIn,?_⟩) hst hpl
 exact run_fn (us:=.ref a::us) (vs:=.ref a::vs) F hr hb hd hx I2 (.cons rfl r) q2
structure Mk(K:PySem.W.Frag)(C f:Addr):Prop where
 makes:makesIn K C=true
 init:PySem.W.findIn K (.ref C) "__init__" = some (some (.ref f))
 fn:isFn K (.ref f)=true
 kp:keepIn K (.ref C)=true
theorem run_make{pins:List (Addr×Obj)}{σ:St}{H:Hp}{s:Shared}{Q:VK}{us:List Value}{vs:List V}(M:Mk X.K C f)(F:FnOk X.prog X.w X.K X.mg X.base CX k f fd ps sp)(hr:Room (k+1) X.A)(hb:Binds X.K fd ps ds)(hd:Vals dvs ds)
  (hx:Passes CX X E) (I:Inv X pins σ H s) (r:Vals vs us)
  (h:∀ x dx,H x=none->H dx=none->dx≠x->sp (.ref x::(vs++dvs)) (upd (upd H dx (.own x)) x (.ins C dx [])) (fun v H2=>v = .non/\Q (.ref x) H2) E) :
  wpAny (model X.prog X.w) X.A (call (.ref C) us) (EP X pins σ Q) X.xe s:=by
 have hq:=h (s.heap.objs.size+1) s.heap.objs.size (I.hok.fresh (Nat.le_succ _)) (I.hok.fresh (Nat.le_refl _)) (Nat.ne_of_lt (Nat.lt_succ_self _))
 have I2:=Inv.made (C:=C) I
 have r2:Vals (V.ref (s.heap.objs.size+1)::(vs++dvs)) (Value.ref (s.heap.objs.size+1)::(us++ds)):=.cons rfl (r.append hd)
 have hl:(Value.ref (s.heap.objs.size+1)::us++ds).length=ps.length:=by
  have e:=r2.length
  rw [F.len _ _ _ _ hq] at e
  exact e.symm
 refine wpAny_call (make_map (f:=f) I.kIn M.makes M.init (beq_iff_eq.mp M.fn) (codeAny_mono (F.run _ X.stack _ _ ⟨Value.ref (s.heap.objs.size+1)::us,[]⟩ (Value.ref (s.heap.objs.size+1)::(us++ds)) _ _ E (hr.make C us [])
  (I2.env0.make C us []) (hb _ (Value.ref (s.heap.objs.size+1)::us) I2.kIn hl) r2 hq) fun r s' hq'=>?_))
 cases r with
 | error e=>exact hx pins σ _ _ e s' I2 hq'
 | ok fl =>
  cases fl with
  | ret u =>
   obtain ⟨v,H',I3,rv,ev,q3⟩:=I2.after hq'
   subst ev
   exact ⟨rv,⟨V.ref (s.heap.objs.size+1),H',I3,rfl,q3⟩⟩
  | next=>exact False.elim hq'
  | brk=>exact False.elim hq'
  | cont=>exact False.elim hq'
theorem pe_make(M:Mk X.K C f)(F:FnOk X.prog X.w X.K X.mg X.base CX k f fd ps sp)(hr:Room (k+1) X.A)(hg:Gl X x)(hm:X.mg x=some (.ref C))(hb:Binds X.K fd ps ds)(hd:Vals dvs ds)(hx:Passes CX X E)
  (ha:PA X (e::es) t) (hdb:(x == ("__debug__" : Str))=false:=by decide) (he:starEach (e::es) X.env=(false,eval e X.env)::starEach es X.env:=by rfl) (hpl:(backTo pos (starEach es X.env)).any (·.1)=false:=by rfl) :
  PE X (.Call (.Name x p) (e::es) [] pos) (tMake C sp dvs E t):=by
 intro pins s σ H Q I h
 refine wpAny_Call_Name_kw (w_t I hg hm ?_ hdb)
 refine callWith_K (h₀:=X.base) I.ok.mod.kin M.kp (thn (ha pos pins s σ H _ I h) fun us s1 ⟨vs,H1,I1,r,q⟩=>⟨I1.kIn,?_⟩) he hpl
 exact run_make M F hr hb hd hx I1 r q
end
structure FnScope(N P:List Str)(sc:Scope):Prop where
 kind:sc.kind = .function
 co:sc.isCoroutine=false
 gen:sc.isGenerator=false
 nd:N.Nodup
 pre:N.take P.length=P
 par:∀ x∈P,sc.names.lookup x=some .local\/sc.names.lookup x=some .cell
 nofree:∀ y∈sc.names,y.2 ≠ .free
theorem r_w{kindOf:Str->Option NameKind}{x:Str}:∀ {binds:List (Str×Value)} {m:Str->Option Value},(∀ v,(x,v)∉binds)->bindL kindOf binds m x=m x
 | [],_,_=>rfl
 | (n,v)::r,m,h=>by
  unfold bindL
  rw [r_w fun w hw=>h w (List.mem_cons_of_mem _ hw)]
  split
  ·have:x≠n:=by rintro rfl;exact h v List.mem_cons_self
   simp [this]
  ·rfl
theorem r_u{kindOf:Str->Option NameKind}{x:Str}:∀ {binds:List (Str×Value)} {m:Str->Option Value},(∀ v,(x,v)∉binds)->bindC kindOf binds m x=m x
 | [],_,_=>rfl
 | (n,v)::r,m,h=>by
  unfold bindC
  rw [r_u fun w hw=>h w (List.mem_cons_of_mem _ hw)]
  split
  ·rfl
  ·have:x≠n:=by rintro rfl;exact h v List.mem_cons_self
   simp [this]
theorem r_v{kindOf:Str->Option NameKind}{x:Str}{v:Value}:∀ {P:List Str} {vs:List Value} {i:Nat} {m:Str->Option Value},P.Nodup->P[i]? = some x->vs[i]? = some v->kindOf x=some .local ->
  bindL kindOf (P.zip vs) m x=some v
 | [],_,_,_,_,h,_,_=>by simp at h
 | _::_,[],_,_,_,_,h,_=>by simp at h
 | p::P,w::vs,0,m,nd,h1,h2,hk=>by
  simp at h1 h2;subst h1;subst h2
  show bindL kindOf ((p,w)::P.zip vs) m p=_
  unfold bindL
  rw [r_w fun v hv=>(List.nodup_cons.mp nd).1 (List.of_mem_zip hv).1,if_pos hk]
  simp
 | p::P,w::vs,i+1,m,nd,h1,h2,hk=>by
  show bindL kindOf ((p,w)::P.zip vs) m x=_
  unfold bindL
  exact r_v (i:=i) (List.nodup_cons.mp nd).2 (by simpa using h1) (by simpa using h2) hk
theorem r_t{kindOf:Str->Option NameKind}{x:Str}{v:Value}:∀ {P:List Str} {vs:List Value} {i:Nat} {m:Str->Option Value},P.Nodup->P[i]? = some x->vs[i]? = some v->kindOf x≠some .local ->
  bindC kindOf (P.zip vs) m x=some v
 | [],_,_,_,_,h,_,_=>by simp at h
 | _::_,[],_,_,_,_,h,_=>by simp at h
 | p::P,w::vs,0,m,nd,h1,h2,hk=>by
  simp at h1 h2;subst h1;subst h2
  show bindC kindOf ((p,w)::P.zip vs) m p=_
  unfold bindC
  rw [r_u fun v hv=>(List.nodup_cons.mp nd).1 (List.of_mem_zip hv).1,if_neg hk]
  simp
 | p::P,w::vs,i+1,m,nd,h1,h2,hk=>by
  show bindC kindOf ((p,w)::P.zip vs) m x=_
  unfold bindC
  exact r_t (i:=i) (List.nodup_cons.mp nd).2 (by simpa using h1) (by simpa using h2) hk
def start(N:List Str)(vs:List V):St:=vs.map some++List.replicate (N.length-vs.length) none
def cxOf(CX:CXT)(P:Program)(w:World)(K:PySem.W.Frag)(mg:Str->Option Value)(base:Heap)(N:List Str)(qual:Str)(scope:Scope)(f:Addr)(cd:Value)(A:Around)(outer:List Env)(s:Shared)(H:Hp)(E:XK):Cx where
 prog:=P
 w:=w
 K:=K
 mg:=mg
 base:=base
 A:=A.deeper (envOfC qual scope s.heap.objs.size f cd)
 N:=N
 s₀:=s
 H₀:=H
 env:=envOfC qual scope s.heap.objs.size f cd
 outer:=outer
 stack:=envOfC qual scope s.heap.objs.size f cd::outer
 ex:=[]
 calm:=true
 fn:=fun _=>true
 pn:=[]
 xe:=fun e s'=>wpAny (model P w) (A.deeper (envOfC qual scope s.heap.objs.size f cd)) (leaving (envOfC qual scope s.heap.objs.size f cd) e) (fun _ s''=>CX outer H s E e s'') (fun e' s''=>CX outer H s E e' s'') s'
theorem o_k{sc:Scope}{n:Nat}{x:Str}(h:sc.names.lookup x=some .cell):∃ c,(cellsFrom n sc.names []).lookup x=some c:=by
 have q:=PySem.W.cellsFrom_some sc.names n [] (.inl h)
 exact Option.isSome_iff_exists.mp q
theorem l_m{CX:CXT}{P:Program}{w:World}{K:PySem.W.Frag}{mg:Str->Option Value}{base:Heap}{N ps:List Str}{qual:Str}{scope:Scope}{f:Addr}{cd:Value}{A:Around}{outer:List Env}{s s1:Shared}{H:Hp}{E:XK}{us:List Value}{vs:List V}
  (S:FnScope N ps scope) (hd:A.handled=none) (e0:Env0 P w K mg base A outer s H) (hl:vs.length=ps.length) (r:Vals vs us)
  (x:InCallC s s.heap.objs.size (bindL (envOfC qual scope s.heap.objs.size f cd).kindOf (ps.zip us) fun _=>none) (cellsFrom (s.heap.objs.size+1) scope.names []) (bindC (envOfC qual scope s.heap.objs.size f cd).kindOf (ps.zip us) fun _=>none) s1) :
  Inv (cxOf CX P w K mg base N qual scope f cd A outer s H E) [] (start N vs) H s1:=by
 have hpl:ps.length<=N.length:=by have:=congrArg List.length S.pre;rw [List.length_take] at this;lia
 obtain ⟨h1,tk,rfl,hk⟩:=x.done
 have noA:∀ b:Addr,b∉(cxOf CX P w K mg base N qual scope f cd A outer s H E).ex:=fun b z=>absurd (show b∈([]:List Addr) from z) (by simp)
 refine ⟨⟨e0.mod,S.kind,rfl,rfl,Nat.le_refl _,fun y z c h1 h2=>?_,fun y hy=>?_,fun y c _ h=>?_,fun _=>hd,Around.frames_deeper e0.frames,e0.gd,.inr ⟨rfl,rfl⟩,fun b z=>absurd z (noA b),e0.bs,e0.bsz,fun b _ _=>noA b,fun b z=>absurd z (noA b),e0.funs,e0.frf⟩,
  rfl,e0.bare,Un.kept hk,⟨_,x.toInCall.ns,fun i y v h1 h2 h3=>?_⟩,fun y c h=>⟨_,x.cell y c h⟩,e0.hok.fresh (Nat.le_refl _),fun y c h=>?_,fun p hp=>absurd (show p∈([]:List (Addr×Obj)) from hp) (by simp),e0.hok.kept hk,?_⟩
 ·exact name_of_addr x.apart (PySem.mem_of_lookup h1) (PySem.mem_of_lookup h2)
 ·have hy:scope.names.lookup y=some .cell\/scope.names.lookup y=some .free:=hy
  rcases hy with hy | hy
  ·exact o_k hy
  ·exact absurd rfl (S.nofree _ (PySem.mem_of_lookup hy))
 ·exact Nat.le_of_lt (x.above y c (PySem.mem_of_lookup h))
 ·have hi:i<vs.length:=by
   unfold start at h2
   by_cases hi:i<vs.length
   ·exact hi
   ·rw [List.getElem?_append_right (by simpa using hi)] at h2
    rw [List.getElem?_replicate] at h2
    split at h2<;>cases h2
  have ha:vs[i]? = some v:=by
   unfold start at h2
   rw [List.getElem?_append_left (by simpa using hi),List.getElem?_map] at h2
   cases e:vs[i]? with
   | none=>rw [e] at h2;cases h2
   | some a=>rw [e] at h2;cases h2;rfl
  obtain ⟨u,hu,rv⟩:=r.get ha
  have hp:ps[i]? = some y:=by
   rw [<-S.pre,List.getElem?_take_of_lt (by lia)];exact h1
  have ndP:ps.Nodup:=by rw [<-S.pre];exact S.nd.sublist (List.take_sublist _ _)
  refine ⟨u,rv,?_⟩
  rcases S.par y (List.mem_of_getElem? hp) with k | k
  ·exact .inl ⟨k,r_v ndP hp hu k⟩
  ·obtain ⟨c,e⟩:=o_k (n:=s.heap.objs.size+1) k
   refine .inr ⟨.inl k,c,e,?_⟩
   have q:=x.cell y c e
   rw [r_t ndP hp hu (by show scope.names.lookup y≠_;rw [k];decide)] at q
   exact q
 ·exact e0.hok.fresh (Nat.le_of_lt (x.above y c (PySem.mem_of_lookup h)))
 ·unfold start
  show _=N.length
  rw [List.length_append,List.length_map,List.length_replicate]
  lia
theorem fn_of{CX:CXT}{P:Program}{w:World}{K:PySem.W.Frag}{mg:Str->Option Value}{base:Heap}{k:Nat}{f:Addr}{name qual:Str}{params:Arguments}{body:List Stmt}{scope:Scope}{dV kV doc pm cdv ct oc:Value}{an od:Option Addr}
  {osl:Array (Option Value)} {N ps:List Str} {sp:Sp} (lk:K.lookup f=some ⟨oc,od,.func (fnOf name qual params body scope dV kV doc pm an cdv ct),osl⟩) (hcd:codeIn K cdv qual=true) (S:FnScope N ps scope)
  (len:∀ vs H Q E,sp vs H Q E->vs.length=ps.length)
  (hbody:∀ (A:Around) (outer:List Env) (s:Shared) (H:Hp) (vs:List V) (Q:VK) (E:XK),Room k (A.deeper (envOfC qual scope s.heap.objs.size f cdv))->sp vs H Q E ->
   ∃ t,PSs (cxOf CX P w K mg base N qual scope f cdv A outer s H E) body t/\t { nx:=fun _ H'=>Q .non H',rt:=Q } (start N vs) H) :
  FnOk P w K mg base CX (k+1) f (fnOf name qual params body scope dV kV doc pm an cdv ct) ps sp:=by
 refine ⟨len,fun A outer s H args us vs Q E hr e0 hb r hsp=>?_⟩
 have hl:=len _ _ _ _ hsp
 have KX:K.In s.heap:=e0.mod.kin.keeps fun b o e=>(e0.bs b o e).1
 have lim:s.heap.NoLimit:=e0.mod.nolimit.keeps fun b o e=>(e0.bs b o e).1
 have hkind:∀ y∈ps.zip us,scope.names.lookup y.1=some .local\/(scope.names.lookup y.1=some .cell/\((cellsFrom (s.heap.objs.size+1) scope.names []).lookup y.1).isSome=true):=fun ⟨n,v⟩ hy=>by
  rcases S.par n (List.of_mem_zip hy).1 with q | q
  ·exact .inl q
  ·exact .inr ⟨q,PySem.W.cellsFrom_some _ _ _ (.inl q)⟩
 refine codeAny_call_function hr.depth (KX _ _ lk) rfl S.co S.gen rfl (PySem.W.codeRec_of KX hcd) (hb _ _ _ _ ?_)
 refine wpAny_newFunctionEnv_cells S.kind hkind fun env he s1 x=>?_
 subst he
 refine ⟨lim.keeps x.toInCall.keep,codeAny_func ?_⟩
 obtain ⟨t,ht,hq⟩:=hbody A outer s H vs Q E (hr.deeper _) hsp
 have I:Inv (cxOf CX P w K mg base N qual scope f cdv A outer s H E) [] (start N vs) H s1:=l_m S hr.hd e0 hl r x
 refine wpAny_mono (ht [] s1 (start N vs) H _ I hq) (fun fl s' hs=>?_) fun e s' hs=>hs
 have fin:∀ {σ':St} {H':Hp} {v:V} {u:Value},Inv (cxOf CX P w K mg base N qual scope f cdv A outer s H E) [] σ' H' s'->RelV v u->Q v H'->CE outer P w H s Q u s' :=
  fun {σ' H' v u} J rv q=>⟨v,H',J.os,J.bare,J.base,J.hok,rv,q⟩
 cases fl with
 | ret u =>
  obtain ⟨v,σ',H',J,rv,q⟩:=hs
  exact fin J rv q
 | next =>
  obtain ⟨σ',H',J,q⟩:=hs
  exact fin (v:=V.non) (u:=Value.none) J rfl q
 | brk =>
  obtain ⟨_,_,_,q⟩:=hs
  exact False.elim q
 | cont =>
  obtain ⟨_,_,_,q⟩:=hs
  exact False.elim q
open PySem PySem.Spec PyProof.Rows
section
variable {X:Cx} {x:Str} {p pos:Pos} {e:Expr} {es:List Expr} {t:TA} {id T:String} {r:List V->Hp->VK->Prop}
def tCB(r:List V->Hp->VK->Prop)(t:TA):TE:=fun σ H Q=>t σ H fun vs H1=>r vs H1 Q
theorem z_n(hc:CallR X (.builtin id) r)(hg:Gl X x)(hm:X.mg x=none)(hv:bootBuiltins x=some (.builtin id))(ha:PA X (e::es) t)(hn:x ≠ "__name__" := by decide)(hdb:(x == ("__debug__" : Str))=false:=by decide)
  (he:starEach (e::es) X.env=(false,eval e X.env)::starEach es X.env:=by rfl) (hpl:(backTo pos (starEach es X.env)).any (·.1)=false:=by rfl):PE X (.Call (.Name x p) (e::es) [] pos) (tCB r t):=by
 intro pins s σ H Q I h
 refine wpAny_Call_Name_kw (v_o I hg hm hv ?_ hn hdb)
 exact PyProof.Rows.callWith_builtin1 (thn (ha pos pins s σ H _ I h) fun us s1 ⟨vs,H1,I1,r1,q1⟩=>hc pins s1 σ H1 vs us Q I1 r1 q1) he hpl
theorem w_k(hc:CallR X (.type T) r)(hg:Gl X x)(hm:X.mg x=none)(hv:bootBuiltins x=some (.type T))(ha:PA X (e::es) t)(hn:x ≠ "__name__" := by decide)(hdb:(x == ("__debug__" : Str))=false:=by decide)
  (he:starEach (e::es) X.env=(false,eval e X.env)::starEach es X.env:=by rfl) (hpl:(backTo pos (starEach es X.env)).any (·.1)=false:=by rfl):PE X (.Call (.Name x p) (e::es) [] pos) (tCB r t):=by
 intro pins s σ H Q I h
 refine wpAny_Call_Name_kw (v_o I hg hm hv ?_ hn hdb)
 exact PyProof.Rows.callWith_type1 (thn (ha pos pins s σ H _ I h) fun us s1 ⟨vs,H1,I1,r1,q1⟩=>hc pins s1 σ H1 vs us Q I1 r1 q1) he hpl
end
end L2
namespace HT
open PySem PyProof.Rows
section
open PySem.SeqAt
open PySem.AutoSeq1 (wpAny_loadPart')
open PySem.MeetsSeq PySem.MeetsSeq2 PySem.MeetsSeq3
end
section
variable {prog:Program} {w:World} {A:Around} {E:Value->Shared->Prop} {s:Shared}
def sIx(n d:Nat):Option Int->Nat
 | none=>d
 | some v=>if v<0 then (v+(n:Int)).toNat else min v.toNat n
theorem sIx_none(n d:Nat):sIx n d none=d:=rfl
theorem sIx_nat(n d k:Nat):sIx n d (some (k:Int))=min k n:=by
 show (if (k:Int)<0 then ((k:Int)+(n:Int)).toNat else min (k:Int).toNat n)=min k n
 rw [if_neg (by lia),Int.toNat_natCast]
end
end HT
namespace L2
open PySem PySem.Spec PyProof.Rows
abbrev TO:=St->Hp->(Option Int->Hp->Prop)->Prop
def PO(X:Cx)(e:Option Expr)(t:TO):Prop :=
 ∀ (pins:List (Addr×Obj)) (s:Shared) (σ:St) (H:Hp) (Q:Option Int->Hp->Prop),Inv X pins σ H s->t σ H Q ->
  wpAny (model X.prog X.w) X.A (evalPart e X.env) (fun u s'=>∃ o H',Inv X pins σ H' s'/\IsPart u o/\Q o H') X.xe s
def tNoPart:TO:=fun _ H Q=>Q none H
def tPart(t:TE):TO:=fun σ H Q=>t σ H fun x H1=>∃ i,x = .int i/\Q (some i) H1
section
variable {X:Cx} {e:Expr} {te:TE} {lo hi:Option Expr} {tl th:TO} {pos p2:Pos}
theorem po_none:PO X none tNoPart:=by
 intro pins s σ H Q I h
 rw [evalPart_none]
 exact wpAny_pure ⟨none,H,I,.none,h⟩
theorem po_some(h:PE X e te):PO X (some e) (tPart te):=by
 intro pins s σ H Q I hw
 rw [evalPart_some]
 refine thn (h pins s σ H _ I hw) fun u s1 ⟨x,H1,I1,r1,q1⟩=>?_
 obtain ⟨i,rfl,q⟩:=q1
 obtain ⟨t,rfl⟩:=r1
 exact ⟨some i,H1,I1,.int i t,q⟩
def SlR(X:Cx)(r:V->Option Int->Option Int->Hp->VK->Prop):Prop :=
 ∀ (pins:List (Addr×Obj)) (s:Shared) (σ:St) (H:Hp) (x:V) (v vl vu:Value) (lo hi:Option Int) (sl:Addr) (Q:VK),Inv X pins σ H s->RelV x v->s.heap.IsSliceOf sl vl vu .none->IsPart vl lo->IsPart vu hi->r x lo hi H Q ->
  ∃ T id,typeLookup (.type T) "__getitem__" = pure (some (.builtin id))/\s.TypeIs v T/\wpAny (model X.prog X.w) X.A (getItem v (.ref sl)) (EP X pins σ Q) X.xe s
def tSl(r:V->Option Int->Option Int->Hp->VK->Prop)(te:TE)(tl th:TO):TE:=fun σ H Q=>te σ H fun x H1=>tl σ H1 fun l H2=>th σ H2 fun u H3=>r x l u H3 Q
theorem pe_slice{r:V->Option Int->Option Int->Hp->VK->Prop}(hr:SlR X r)(he:PE X e te)(hl:PO X lo tl)(hu:PO X hi th):PE X (.Subscript e (.Slice lo hi none p2) pos) (tSl r te tl th):=by
 intro pins s σ H Q I h
 refine Subscript_ (thn (he pins s σ H _ I h) fun v s1 ⟨x,H1,I1,r1,q1⟩=>?_)
 refine wpAny_Slice (thn (hl pins s1 σ H1 _ I1 q1) fun vl s2 ⟨l,H2,I2,pl,q2⟩=>thn (hu pins s2 σ H2 _ I2 q2) fun vu s3 ⟨u,H3,I3,pu,q3⟩=>?_)
 rw [evalPart_none]
 refine wpAny_pure ?_
 have I4:Inv X pins σ H3 { s3 with heap:=s3.heap.push { cls:=.type "slice",data:=.fields #[vl,vu,.none] } }:=I3.kept (t':=s3.toks) fun b ob q=>Heap.get?_push_of_some _ q
 obtain ⟨T,id,hT,ht,hg⟩:=hr pins { s3 with heap:=s3.heap.push { cls:=.type "slice",data:=.fields #[vl,vu,.none] } } σ H3 x v vl vu l u s3.heap.objs.size Q I4 r1 (Heap.IsSliceOf.new ..) pl pu q3
 show wpAny (model X.prog X.w) X.A (subscriptTail e (.Slice lo hi none p2) v (.ref s3.heap.objs.size)) (EP X pins σ Q) X.xe { s3 with heap:=s3.heap.push { cls:=.type "slice",data:=.fields #[vl,vu,.none] } }
 exact tail_any (ops:=[.ref s3.heap.objs.size,v]) ht hT hg (by with_unfolding_all rfl)
def cutV(xs:List V)(lo hi:Option Int):List V:=(xs.drop (HT.sIx xs.length 0 lo)).take (HT.sIx xs.length xs.length hi-HT.sIx xs.length 0 lo)
theorem p_m(xs:List V)(lo hi:Option Int):(cutV xs lo hi).length<=xs.length:=by
 unfold cutV
 rw [List.length_take,List.length_drop]
 lia
end
end L2
namespace L2
open PySem PySem.Spec PyProof.Rows
def ixN(n:Nat)(i:Int):Option Nat:=if 0<=i then (if i<n then some i.toNat else none) else if -(n:Int)<=i then some (i+n).toNat else none
def atI{α:Type}(xs:List α)(i:Int):Option α:=(ixN xs.length i).bind fun j=>xs[j]?
theorem l_o{n:Nat}{i:Int}{j:Nat}(h:ixN n i=some j):seqIndex? i n=some j/\j<n /\ -(n:Int)<=i/\i<n:=by
 unfold ixN at h
 by_cases h0:0<=i
 ·rw [if_pos h0] at h
  by_cases h1:i<n
  ·rw [if_pos h1] at h
   have e:i.toNat=j:=Option.some.inj h
   exact ⟨by rw [seqIndex_of h0 h1,e],by lia,by lia,h1⟩
  ·rw [if_neg h1] at h;cases h
 ·rw [if_neg h0] at h
  by_cases h1 : -(n:Int)<=i
  ·rw [if_pos h1] at h
   have e:(i+n).toNat=j:=Option.some.inj h
   exact ⟨by rw [seqIndex_neg (by lia) h1,e],by lia,h1,by lia⟩
  ·rw [if_neg h1] at h;cases h
theorem m_p{α:Type}{xs:List α}{i:Int}{v:α}(h:atI xs i=some v):∃ j,seqIndex? i xs.length=some j/\xs[j]? = some v/\j<xs.length /\ -(xs.length:Int)<=i/\i<xs.length:=by
 unfold atI at h
 cases e:ixN xs.length i with
 | none=>rw [e] at h;cases h
 | some j =>
  rw [e] at h
  obtain ⟨h1,h2,h3,h4⟩:=l_o e
  exact ⟨j,h1,h,h2,h3,h4⟩
theorem t_g{α:Type}{xs:List α}{j:Nat}{v:α}(h:xs[j]? = some v):atI xs (j:Int)=some v:=by
 have hj:j<xs.length:=(List.getElem?_eq_some_iff.mp h).1
 have e:ixN xs.length (j:Int)=some j:=by
  unfold ixN
  rw [if_pos (by lia),if_pos (by lia)];simp
 unfold atI;rw [e];exact h
def PlainIx(b:Expr):Prop:=∀ o i,subscripted b false o i=operate [o,i] (getItem o i)
def IxR(X:Cx)(r:R2):Prop :=
 ∀ (value slice:Expr) (pins:List (Addr×Obj)) (s:Shared) (σ:St) (H:Hp) (x y:V) (v u:Value) (Q:VK),Inv X pins σ H s->RelV x v->RelV y u->r x y H Q ->
  subscripted slice false v u=operate [v,u] (getItem v u)->wpAny (model X.prog X.w) X.A (subscriptTail value slice v u) (EP X pins σ Q) X.xe s
def MtR(X:Cx)(id:String)(r:V->List V->Hp->VK->Prop):Prop :=
 ∀ (pins:List (Addr×Obj)) (s:Shared) (σ:St) (H:Hp) (x:V) (xs:List V) (v:Value) (us:List Value) (Q:VK),Inv X pins σ H s->RelV x v->Vals xs us->r x xs H Q ->
  wpAny (model X.prog X.w) X.A (call (.builtin id) (v::us)) (EP X pins σ Q) X.xe s
section
variable {X:Cx} {a b:Expr} {ta tb:TE} {pos:Pos}
theorem z_o{r:R2}(hr:IxR X r)(ha:PE X a ta)(hb:PE X b tb)(hs:PlainIx b):PE X (.Subscript a b pos) (tOp r ta tb):=by
 intro pins s σ H Q I h
 exact Subscript_ (binT ha hb I h fun v u s2 x y H2 I2 rx ry q=>hr a b pins s2 σ H2 x y v u Q I2 rx ry q (hs _ _))
def rIxL(K:PySem.W.Frag):R2:=fun x y H Q=>∃ p xs i v,x = .ref p/\y = .int i/\SqL K H p xs/\atI xs i=some v/\Q v H
def rIxT(K:PySem.W.Frag):R2:=fun x y H Q=>∃ p xs i v,x = .ref p/\y = .int i/\SqT K H p xs/\atI xs i=some v/\Q v H
theorem x_v:IxR X (rIxL X.K):=by
 intro value slice pins s σ H x y v u Q I rx ry h hs
 obtain ⟨p,xs,i,z,rfl,rfl,hq,he,q⟩:=h
 cases rx
 obtain ⟨t,rfl⟩:=ry
 obtain ⟨its,r,pl,hz⟩:=I.list hq
 obtain ⟨j,h1,h2,h3,h4,h5⟩:=m_p he
 obtain ⟨w,ew,rw'⟩:=r.get h2
 have hl:=r.length
 have hn:=line63
 have fin:EP X pins σ Q w s:=⟨z,H,I,rw',q⟩
 by_cases h0:0<=i
 ·have hj:i.toNat=j:=by
   rw [seqIndex_of h0 h5] at h1
   exact Option.some.inj h1
  exact item_listR pl.isList h0 (by lia) (by rw [hj];simpa using ew) fin hs
 ·have hj:(i+(its.toArray.size:Int)).toNat=j:=by
   rw [seqIndex_neg (by lia) h4] at h1
   rw [List.size_toArray,<-hl]
   exact Option.some.inj h1
  exact subscriptTail_builtinR (x:=w) pl.isList.typeIs slot_list_getitem.lookup
   (wpAny_getItem_list_neg (Q:=fun r s'=>r=w/\EP X pins σ Q r s') pl.isList (by lia) (by rw [List.size_toArray]<;>lia) (by lia) (by rw [hj];simpa using ew) ⟨rfl,fin⟩) hs
theorem x_w:IxR X (rIxT X.K):=by
 intro value slice pins s σ H x y v u Q I rx ry h hs
 obtain ⟨p,xs,i,z,rfl,rfl,hq,he,q⟩:=h
 cases rx
 obtain ⟨t,rfl⟩:=ry
 obtain ⟨its,r,pl,hz⟩:=I.tuple hq
 obtain ⟨j,h1,h2,h3,h4,h5⟩:=m_p he
 obtain ⟨w,ew,rw'⟩:=r.get h2
 have hl:=r.length
 have hn:=line63
 have fin:EP X pins σ Q w s:=⟨z,H,I,rw',q⟩
 exact subscriptTail_builtinR (x:=w) pl.typeIs slot_tuple_getitem.lookup
  (getItem_tuple (j:=j) (Q:=fun r s'=>r=w/\EP X pins σ Q r s') pl (by lia) (by lia) (by rw [List.size_toArray,<-hl];exact h1) (by simpa using ew) ⟨rfl,fin⟩) hs
theorem n_x(its:List Value)(n j:Nat)(u:Value):Obj.mapSeq (·.setIfInBounds j u) { cls:=.type "list",data:=.seq its.toArray n }={ cls:=.type "list",data:=.seq (its.set j u).toArray n }:=by
 simp [Obj.mapSeq]
theorem Inv.lst{pins:List (Addr×Obj)}{σ:St}{H:Hp}{s:Shared}{p:Addr}{xs:List V}(I:Inv X pins σ H s)(h:H p=some (.lst xs)) :
  ∃ (its:List Value) (n:Nat),Vals xs its/\s.heap.get? p=some { cls:=.type "list",data:=.seq its.toArray n }/\xs.length<=sizeLine:=by
 obtain ⟨z,its,n,r,e⟩:=I.hok p _ h
 exact ⟨its,n,r,e,z⟩
theorem Inv.lstUpd{pins:List (Addr×Obj)}{σ:St}{H:Hp}{s:Shared}{p:Addr}{xs ys:List V}{its its':List Value}{n n':Nat}{f:Obj->Obj}(I:Inv X pins σ H s)(h:H p=some (.lst xs))
  (ho:s.heap.get? p=some { cls:=.type "list",data:=.seq its.toArray n }) (hf:f { cls:=.type "list",data:=.seq its.toArray n }={ cls:=.type "list",data:=.seq its'.toArray n' }) (r:Vals ys its') (hz:ys.length<=sizeLine) (t:Nat) :
  Inv X pins σ (upd H p (.lst ys)) { s with heap:=s.heap.update p f,toks:=t }:=by
 have e:(s.heap.update p f).get? p=some { cls:=.type "list",data:=.seq its'.toArray n' }:=by
  rw [Heap.get?_update_self f ho (by rw [hf]<;>rfl),hf]
 refine I.write (x:=p) (e:=p) (by rw [h];trivial) (.inl rfl) (fun b u hb q=>(Heap.get?_update_other _ _ (Ne.symm hb)).trans q) ⟨_,e⟩ ?_
 exact ⟨hz,its',n',r,e⟩
def rSetL:V->V->V->Hp->(Hp->Prop)->Prop:=fun o i v H Q=>∃ p xs k j,o = .ref p/\i = .int k/\H p=some (.lst xs)/\ixN xs.length k=some j/\Q (upd H p (.lst (xs.set j v)))
theorem n_d:PSet X rSetL:=by
 intro pins s σ H o i v ov iv u Q I ro ri rv h
 obtain ⟨p,xs,k,j,rfl,rfl,hp,hj,q⟩:=h
 cases ro
 obtain ⟨t,rfl⟩:=ri
 obtain ⟨its,n,r,ho,hz⟩:=I.lst hp
 obtain ⟨h1,h2,h3,h4⟩:=l_o hj
 have hl:=r.length
 have hn:=line63
 have I':Inv X pins σ (upd H p (.lst (xs.set j v))) { s with heap:=s.heap.update p (Obj.mapSeq (·.setIfInBounds j u)) } :=
  I.lstUpd hp ho (n_x its n j u) (r.set rv j) (by rw [List.length_set];exact hz) s.toks
 by_cases h0:0<=k
 ·have hk:k.toNat=j:=by
   rw [seqIndex_of h0 h4] at h1
   exact Option.some.inj h1
  exact PySem.W.ki_setAt ho h0 (by lia) (by rw [List.size_toArray,<-hl];exact h4) (by rw [hk];exact ⟨_,I',q⟩)
 ·have hk:(k+(its.toArray.size:Int)).toNat=j:=by
   rw [seqIndex_neg (by lia) h3] at h1
   rw [List.size_toArray,<-hl]
   exact Option.some.inj h1
  exact PySem.W.ki_setBack ho (by lia) (by rw [List.size_toArray,<-hl];exact h3) (by lia) (by rw [hk];exact ⟨_,I',q⟩)
theorem q_z(lo hi:Option Int)(n:Nat):(sliceBounds lo hi none n).1=((HT.sIx n 0 lo:Nat):Int)/\(sliceBounds lo hi none n).2.1=((HT.sIx n n hi:Nat):Int)/\(sliceBounds lo hi none n).2.2=1:=by
 refine ⟨?_,?_,rfl⟩
 ·cases lo with
  | none=>simp [sliceBounds,HT.sIx]
  | some i =>
   simp only [sliceBounds,HT.sIx,Option.getD_none,show (1:Int) > 0 by decide,if_true]
   by_cases h:i<0
   ·simp only [h,if_true]<;>lia
   ·simp only [h,if_false]<;>lia
 ·cases hi with
  | none=>simp [sliceBounds,HT.sIx]
  | some i =>
   simp only [sliceBounds,HT.sIx,Option.getD_none,show (1:Int) > 0 by decide,if_true]
   by_cases h:i<0
   ·simp only [h,if_true]<;>lia
   ·simp only [h,if_false]<;>lia
theorem r_o(its:List Value)(lo hi:Option Int):slicePick its.toArray lo hi none=((its.drop (HT.sIx its.length 0 lo)).take (HT.sIx its.length its.length hi-HT.sIx its.length 0 lo)).toArray:=by
 obtain ⟨h1,h2,h3⟩:=q_z lo hi its.toArray.size
 unfold slicePick
 rw [h1,h2,h3]
 simp only [sliceRange_one,pick_run,List.size_toArray]<;>rfl
def rSlL(K:PySem.W.Frag):V->Option Int->Option Int->Hp->VK->Prop:=fun x lo hi H Q=>∃ a xs,x = .ref a/\SqL K H a xs/\∀ p,H p=none->Q (.ref p) (upd H p (.lst (cutV xs lo hi)))
theorem sl_list:SlR X (rSlL X.K):=by
 intro pins s σ H x v vl vu lo hi sl Q I rx hs pl pu h
 obtain ⟨a,xs,rfl,hx,q⟩:=h
 cases rx
 obtain ⟨its,r,ht,hz⟩:=I.list hx
 have hlen:=r.length
 refine ⟨"list",_,slot_list_getitem.lookup,ht.isList.typeIs,?_⟩
 refine wpAny_getItem_list_slice ht.isList hs pl pu .none (by simp) ?_ (by rw [List.size_toArray]<;>lia)
 rw [r_o,<-hlen]
 refine ⟨.ref s.heap.objs.size,_,I.laid (t':=s.toks) (o:=.lst (cutV xs lo hi)) (fun b ob q=>Heap.get?_push_of_some _ q) (Nat.le_refl _) ?_,rfl,q _ (I.hok.fresh (Nat.le_refl _))⟩
 exact ⟨Nat.le_trans (p_m xs lo hi) hz,_,0,(r.drop (HT.sIx xs.length 0 lo)).take (HT.sIx xs.length xs.length hi-HT.sIx xs.length 0 lo),Heap.get?_push_size _ rfl⟩
theorem r_z:CallR X (.type "list") (fun xs H Q=>∃ p ys,xs=[.ref p]/\(SqL X.K H p ys\/SqT X.K H p ys)/\∀ l,H l=none->Q (.ref l) (upd H l (.lst ys))):=by
 intro pins s σ H xs us Q I r h
 obtain ⟨p,ys,rfl,hq,q⟩:=h
 obtain ⟨u,rfl,rx⟩:=vals1 r
 cases rx
 have fin:∀ (its:List Value),Vals ys its->ys.length<=sizeLine->∀ (h':Heap) (c':Nat),(∀ b o',s.heap.get? b=some o'->h'.get? b=some o') ->
   h'.get? s.heap.objs.size=some { cls:=.type "list",dict:=none,data:=.seq its.toArray c',slots:=#[] }->EP X pins σ Q (.ref s.heap.objs.size) { s with heap:=h' }:=fun its r' hz h' c' kp e =>
  ⟨.ref s.heap.objs.size,_,I.laid (t':=s.toks) kp (Nat.le_refl _) (show ObjOk X.prog X.w _ h' _ (.lst ys) from ⟨hz,its,c',r',e⟩),rfl,q _ (I.hok.fresh (Nat.le_refl _))⟩
 rcases hq with hq | hq
 ·obtain ⟨its,r',pl,hz⟩:=I.list hq
  have hlen:=r'.length
  obtain ⟨o,ho,hc,n,hd⟩:=pl.isList
  exact call_list_seq p (.inl rfl) ho hc hd (fun h' c' kp e=>fin its r' hz h' c' kp e) (by simp only [List.size_toArray]<;>lia)
 ·obtain ⟨its,r',pl,hz⟩:=I.tuple hq
  have hlen:=r'.length
  obtain ⟨o,ho,hc,n,hd⟩:=pl
  exact call_list_seq p (.inr rfl) ho hc hd (fun h' c' kp e=>fin its r' hz h' c' kp e) (by simp only [List.size_toArray]<;>lia)
def tyV(K:PySem.W.Frag)(T:String)(x:V)(H:Hp):Prop:=match x with
 | .str _=>T = "str"
 | .int _=>T = "int"
 | .ref p=>(T = "list" /\ ∃ xs,SqL K H p xs)\/(T = "tuple" /\ ∃ o,K.lookup p=some o/\o.cls = .type "tuple" /\ o.dict=none) \/
   (T = "dict" /\ ((∃ kvs,H p=some (.dK kvs))\/∃ kvs,H p=some (.dT kvs)))\/(T = "set" /\ ∃ S n,H p=some (.set S n))
 | _=>False
theorem tyV_is{pins:List (Addr×Obj)}{σ:St}{H:Hp}{s:Shared}{T:String}{x:V}{v:Value}(I:Inv X pins σ H s)(r:RelV x v)(ty:tyV X.K T x H) :
  s.TypeIs v T/\∀ a,v = .ref a->∃ ob,s.heap.get? a=some ob/\ob.dict=none:=by
 cases x with
 | str z =>
  obtain ⟨t,rfl⟩:=r
  cases (show T = "str" from ty)
  exact ⟨typeIs_str s z t,fun _ e=>nomatch e⟩
 | int i =>
  obtain ⟨t,rfl⟩:=r
  cases (show T = "int" from ty)
  exact ⟨typeIs_int s i t,fun _ e=>nomatch e⟩
 | ref p =>
  cases r
  rcases ty with ⟨rfl,xs,hq⟩ | ⟨rfl,o,hk,hc,hd⟩ | ⟨rfl,hk⟩ | ⟨rfl,S,n,hk⟩
  ·obtain ⟨its,_,pl,_⟩:=I.list hq
   refine ⟨pl.isList.typeIs,fun a e=>?_⟩
   cases e
   obtain ⟨o,n,e,c,hd,_⟩:=pl
   exact ⟨o,e,hd⟩
  ·refine ⟨⟨o,I.kIn p o hk,hc⟩,fun a e=>?_⟩
   cases e
   exact ⟨o,I.kIn _ o hk,hd⟩
  ·have z:∃ o,s.heap.get? p=some o/\o.ExactDict:=by
    rcases hk with ⟨kvs,hk⟩ | ⟨kvs,hk⟩
    ·obtain ⟨_,_,_,_,o,_,_,e,ex,_⟩:=I.hok p _ hk
     exact ⟨o,e,ex⟩
    ·obtain ⟨_,_,_,_,o,_,_,e,ex,_⟩:=I.hok p _ hk
     exact ⟨o,e,ex⟩
   obtain ⟨o,e,ex⟩:=z
   refine ⟨⟨o,e,ex.1⟩,fun a e2=>?_⟩
   cases e2
   exact ⟨o,e,ex.2.1⟩
  ·obtain ⟨o,_,_,_,e,ex,_⟩:=I.hok p _ hk
   refine ⟨⟨o,e,ex.1⟩,fun a e2=>?_⟩
   cases e2
   exact ⟨o,e,ex.2.1⟩
 | _=>exact False.elim ty
def tBM(K:PySem.W.Frag)(T:String)(r:V->List V->Hp->VK->Prop)(to:TE)(t:TA):TE:=fun σ H Q=>to σ H fun x H1=>tyV K T x H1/\t σ H1 fun xs H2=>r x xs H2 Q
variable {o e:Expr} {es:List Expr} {to:TE} {t:TA} {name:Str} {apos cpos:Pos} {T id:String} {r:V->List V->Hp->VK->Prop}
theorem pe_bm(pa:PlainAttrs T)(slot:Slot T name id)(hty:typeOf (.builtin id)=pure (.type "method_descriptor"))(hm:MtR X id r)(ho:PE X o to)(ha:PA X (e::es) t)
  (hbase:attributeBase o name X.env (eval o X.env)=eval o X.env:=by rfl)
  (hfew:((backTo cpos (starEach (e::es) X.env)).all (fun x=>!x.1)&&(backToKw cpos (keywordEach [] X.env)).all (fun x=>x.1.isSome)
   && decide ((e::es).length+([]:List Keyword).length+(if ([]:List Keyword).isEmpty then 0 else 1)<30))=true:=by rfl)
  (hline:(apos.endLine == cpos.line)=true:=by rfl) (hs:starEach (e::es) X.env=(false,eval e X.env)::starEach es X.env:=by rfl) (hplain:(backTo cpos (starEach es X.env)).any (·.1)=false:=by rfl) :
  PE X (.Call (.Attribute o name apos) (e::es) [] cpos) (tBM X.K T r to t):=by
 intro pins s σ H Q I h
 refine wpAny_Call_method_late hbase hfew hline rfl (thn (ho pins s σ H _ I h) fun v s1 ⟨x,H1,I1,r1,ty,q1⟩=>?_)
 obtain ⟨h1,h2⟩:=tyV_is I1 r1 ty
 refine ⟨T,id,pa,slot,hty,h1,h2,?_⟩
 have hA:=ha cpos pins s1 σ H1 _ I1 q1
 rw [hs] at hA ⊢
 refine Calls.callWith_builtin (by show (false || (backTo cpos (starEach es X.env)).any (·.1))=false;rw [hplain]<;>rfl) (Calls.evalArgs_plain ?_)
 exact thn hA fun us s2 ⟨vs,H2,I2,r2,q2⟩=>hm pins s2 σ H2 x vs v us Q I2 r1 r2 q2
/- xs.append(e),list.index on a module's tuple .. are MtR facts of 06m -/
end
end L2
namespace L2
open PySem PySem.Spec PyProof.Rows
def MtM(X:Cx)(id:String)(r:V->List V->Hp->VK->Prop):Prop :=
 ∀ (pins:List (Addr×Obj)) (s:Shared) (σ:St) (H:Hp) (x:V) (xs:List V) (v:Value) (us:List Value) (Q:VK),Inv X pins σ H s->RelV x v->Vals xs us->r x xs H Q ->
  wpAny (model X.prog X.w) X.A (call (.builtin id) (v::us)) (EP X pins σ Q) X.xe s
theorem Vals.one:∀ {x:V} {us:List Value},Vals [x] us->∃ u,us=[u]/\RelV x u
 | _,_,.cons r .nil=>⟨_,rfl,r⟩
section
variable {X:Cx} {pins:List (Addr×Obj)} {σ:St} {H:Hp} {s:Shared} {l b:Addr} {xs ys zs:List V}
theorem Inv.lset{its its':List Value}{n:Nat}{f:Array Value->Array Value}{t':Nat}(I:Inv X pins σ H s)(hH:H l=some (.lst xs))
  (e:s.heap.get? l=some { cls:=.type "list",data:=.seq its.toArray n }) (hf:f its.toArray=its'.toArray) (hv:Vals ys its') (hz:ys.length<=sizeLine) :
  Inv X pins σ (upd H l (.lst ys)) { s with heap:=s.heap.update l (Obj.mapSeq f),toks:=t' }:=by
 have q:=PySem.IsL.update e f
 rw [hf] at q
 refine I.write (x:=l) (e:=l) (by rw [hH];exact trivial) (.inl rfl) (fun b' u hb hu=>(Heap.get?_update_other s.heap (Obj.mapSeq f) (Ne.symm hb)).trans hu) ⟨_,q⟩ ?_
 exact ⟨hz,its',_,hv,q⟩
theorem Inv.lnew{its:List Value}{t':Nat}(I:Inv X pins σ H s)(hv:Vals ys its)(hz:ys.length<=sizeLine) :
  Inv X pins σ (upd H s.heap.objs.size (.lst ys)) { s with heap:=s.heap.push { cls:=.type "list",data:=.seq its.toArray },toks:=t' } :=
 I.laid (fun _ _ q=>Heap.get?_push_of_some _ q) (Nat.le_refl _) ⟨hz,its,0,hv,Heap.get?_push_size _ rfl⟩
theorem Inv.fresh(I:Inv X pins σ H s):H s.heap.objs.size=none:=I.hok.fresh (Nat.le_refl _)
theorem Inv.lstM(I:Inv X pins σ H s)(hH:H l=some (.lst xs)):xs.length<=sizeLine/\∃ (its:List Value) (n:Nat),Vals xs its/\xs.length=its.length/\s.heap.get? l=some { cls:=.type "list",data:=.seq its.toArray n }:=by
 obtain ⟨z,its,n,r,e⟩:=I.hok l _ hH
 exact ⟨z,its,n,r,r.length,e⟩
theorem notLongL{n:Nat}(h:n<=sizeLine):Builtin.List.listTooLong n=false:=by
 unfold Builtin.List.listTooLong
 exact decide_eq_false (by lia)
end
section
variable {X:Cx}
def rAppend:V->List V->Hp->VK->Prop:=fun x vs H Q=>∃ l xs y,x = .ref l/\vs=[y]/\H l=some (.lst xs)/\xs.length<sizeLine/\Q .non (upd H l (.lst (xs++[y])))
theorem v_z:MtM X "list.append" rAppend:=by
 intro pins s σ H x vs v us Q I rx rv h
 obtain ⟨l,xs,y,rfl,rfl,hH,hz,q⟩:=h
 cases rx
 obtain ⟨u,rfl,ru⟩:=rv.one
 obtain ⟨z,its,n,r,hl,e⟩:=I.lstM hH
 refine call_meets F.slot_list_append ⟨_,e,rfl⟩ F.entry_list_append (F.args_list_append_2 _ _) (PySem.list_append l its.toArray n u (by rw [List.size_toArray];lia)) ⟨e,?_⟩
 refine ⟨.non,_,I.lset (its':=its++[u]) hH e (by simp) (r.append (.cons ru .nil)) ?_,rfl,q⟩
 rw [List.length_append,List.length_singleton]
 lia
def rExtend:V->List V->Hp->VK->Prop:=fun x vs H Q=>∃ l b xs zs,x = .ref l/\vs=[.ref b]/\H l=some (.lst xs)/\H b=some (.lst zs)/\xs.length+zs.length<=sizeLine/\Q .non (upd H l (.lst (xs++zs)))
theorem u_a:MtM X "list.extend" rExtend:=by
 intro pins s σ H x vs v us Q I rx rv h
 obtain ⟨l,b,xs,zs,rfl,rfl,hH,hB,hz,q⟩:=h
 cases rx
 obtain ⟨u,rfl,ru⟩:=rv.one
 cases ru
 obtain ⟨z,its,n,r,hl,e⟩:=I.lstM hH
 obtain ⟨z2,its2,n2,r2,hl2,e2⟩:=I.lstM hB
 have hsz:its.toArray.size+its2.toArray.size<=sizeLine:=by rw [List.size_toArray,List.size_toArray];lia
 have hlong:¬(!its.toArray.isEmpty&&Builtin.List.listTooLong (its.toArray.size+its2.toArray.size))=true:=by
  rw [notLongL hsz,Bool.and_false]
  exact Bool.false_ne_true
 refine call_meets F.slot_list_extend ⟨_,e,rfl⟩ F.entry_list_extend (F.args_list_extend_2 _ _)
  (AutoSeq1.list_extend_list_list_0 l its.toArray n b its2.toArray n2 hlong (by rw [List.size_toArray];lia) (by lia)) ⟨e,e2,?_⟩
 refine ⟨.non,_,I.lset (its':=its++its2) hH e (by simp) (r.append r2) ?_,rfl,q⟩
 rw [List.length_append]
 lia
def rCat:R2:=fun x y H Q=>∃ l b xs zs,x = .ref l/\y = .ref b/\H l=some (.lst xs)/\H b=some (.lst zs)/\xs.length+zs.length<=sizeLine/\∀ p,H p=none->Q (.ref p) (upd H p (.lst (xs++zs)))
theorem op_cat:OpR X (binaryOp .Add) rCat:=by
 intro pins s σ H x y v u Q I rx ry h
 obtain ⟨l,b,xs,zs,rfl,rfl,hH,hB,hz,q⟩:=h
 cases rx
 cases ry
 obtain ⟨z,its,n,r,hl,e⟩:=I.lstM hH
 obtain ⟨z2,its2,n2,r2,hl2,e2⟩:=I.lstM hB
 refine PySem.P.add_list e e2 ?_ (by rw [List.size_toArray,List.size_toArray];lia)
 have ea:its.toArray++its2.toArray=(its++its2).toArray:=by simp
 rw [ea]
 exact ⟨.ref _,_,I.lnew (t':=s.toks) (r.append r2) (by rw [List.length_append];lia),rfl,q _ I.fresh⟩
end
open PySem PySem.Spec PyProof.Rows
end L2
namespace Att
open PySem PySem.W PySem.Calls PyProof.Rows
theorem t_o{P:Params}{h:Heap}:∀ (ns:List Int) (vs:List Value),WellAll P h vs (ns.map WData.int)->IntsAre vs ns:=by
 intro ns
 induction ns with
 | nil =>
  intro vs w
  rw [List.map_nil] at w
  cases w
  exact .nil
 | cons n ns ih =>
  intro vs w
  rw [List.map_cons] at w
  cases w with
  | cons a b =>
   cases a
   exact .cons _ _ (ih _ b)
theorem k_o{l:OpenLaw}{n:Nat}(hn:l.most=some n){P:Params}{h:Heap}{args:List WData}{vals:List Value}
  (hpre:l.row.toRowW.claim.pre args=true) (hwl:WellAll P h vals args) :
  ∃ a vs ns,vals=[Value.ref a]/\args=[WData.list (ns.map WData.int)]/\h.get? a=some { cls:=.type "list",data:=.seq vs.toArray }/\IntsAre vs ns/\ns.length<=n:=by
 have hsh:WShape.hasAll [] args [.list .int]=true:=(pre_splitW hpre).1
 have hc:l.pre.holds [] { args:=args }=true:=(pre_splitW hpre).2
 obtain ⟨d,r,rfl,h1,h2⟩:=hasAllW_cons hsh
 obtain rfl:=hasAllW_nil h2
 obtain ⟨xs,rfl,h3⟩:=hasW_list h1
 obtain ⟨ns,rfl⟩:=items_int h3
 have hlen:ns.length<=n:=by
  unfold OpenLaw.pre at hc
  have h4:(WTm.not (.lt (.lit (.int (n:Int))) (.len (.arg 0)))).holds [] { args:=[.list (ns.map .int)] }=true:=by
   have h4:=(holds_andW hc).1
   rw [hn] at h4
   exact h4
  have h5:=condW_of h4 (w_not (w_lt w_lit (w_len_list (w_arg rfl))))
  rw [List.length_map] at h5
  refine Nat.le_of_not_lt fun q=>?_
  have q':(n:Int)<((ns.length:Nat):Int):=by lia
  first
   | (rw [decide_eq_true q'] at h5;exact absurd h5 (by decide))
   | (simp at h5;lia)
 cases hwl with
 | cons w1 w2 =>
  cases w2
  cases w1 with
  | list ho hall=>exact ⟨_,_,ns,rfl,rfl,ho,t_o ns _ hall,hlen⟩
theorem k_h(l:OpenLaw)(args:List WData):l.row.toRowW.claim.post args (.bool true) args=true :=
 postW_of (r:=l.row.toRowW) (X:=(true == true))
  (show WShape.has [] (.bool true) .bool=true by first | rfl | decide | simp [WShape.has,WShape.arms,WShape.armsAll])
  (show (WTm.eq .res (.lit (.bool true))).value [] { args:=args,res:=some (.bool true),after:=args }=some (.bool (true == true)) from w_eq_bool (w_res rfl) w_lit) rfl
theorem attach_call{l:OpenLaw}{n:Nat}{q:Program}{loose:List Str}{XP:(Str->Option Value)->Heap->Prop}{YP:World->Heap->Prop}{d:DefRec}
  (hn:l.most=some n) (hdf:d.params.defaults=[])
  (call:∀ (w:World) (s₀ s₁:Shared) (mg mb:Str->Option Value) (fa:Addr) (o:Obj) (pm cd doc:Value) (a:Addr) (vs:List Value) (ns:List Int),
   Ground q loose [] XP w s₀ mg mb s₁.heap->YP w s₁.heap ->
   s₁.heap.get? fa=some o->o.data = .func (docDef d.name d.params d.body d.scope pm cd doc)->s₁.heap.CodeRec cd d.name->mg d.name=some (.ref fa) ->
   s₁.heap.get? a=some { cls:=.type "list",data:=.seq vs.toArray }->IntsAre vs ns->ns.length<=n->s₁.gens = #[] ->
   codeAny (model l.prog w) callerA (.call (.ref fa) ⟨[.ref a],[]⟩) (fun r s'=>r = .ok (.ret (.bool true))/\OldK s₁.heap s'.heap/\s'.os=s₁.os/\AllBare s'.gens) s₁) :
  WalkO q loose XP YP l.row.toRowW d [] (fun f vs=>PySem.call f vs):=by
 intro w s₀ s₁ mg mb G Y fa o pm cd doc dV kV ho hd hcd hD hmg hg args vals as hpre hlay hrd hwl hlo
 obtain rfl:dV = .none:=Dflts.none hD hdf
 obtain rfl:kV = .none:=Dflts.noKw hD
 obtain ⟨a,vs,ns,rfl,rfl,hobj,hints,hlen⟩:=k_o hn hpre hwl
 refine enter_call (codeAny_mono (call w s₀ s₁ mg mb fa o pm cd doc a vs ns G Y ho (fd_plain hd) hcd hmg hobj hints hlen hg) fun r s' hq=>?_)
 obtain ⟨rfl,h2,h3,h4⟩:=hq
 exact ⟨.inl ⟨.bool true,.bool true,[],rfl,fun _=>rfl,.bool true,k_h l _,fun _=>⟨List.Pairwise.nil,fun _ hm=>(nomatch hm)⟩⟩,h2,h3,h4⟩
end Att
namespace L2
open PySem PySem.Spec PyProof.Rows
theorem p_k:∀ {vs:List Value} {ns:List Int},IntsAre vs ns->Vals (ns.map V.int) vs
 | _,_,.nil=>.nil
 | _,_,.cons n t h=>.cons ⟨t,rfl⟩ (p_k h)
def inClass(s:Stmt)(j:Nat):Stmt:=match s with
 | .ClassDef _ _ _ body _ _ _ _ _ _ _=>body.getD j (.Pass ⟨0,0,0,0⟩)
 | _=>.Pass ⟨0,0,0,0⟩
def w_h(s:Stmt):Arguments:=match s with
 | .FunctionDef _ a _ _ _ _ _ _ _ _=>a
 | _=>{ posonlyargs:=[],args:=[],vararg:=none,kwonlyargs:=[],kw_defaults:=[],kwarg:=none,defaults:=[] }
def x_n(s:Stmt):List Stmt:=match s with
 | .FunctionDef _ _ b _ _ _ _ _ _ _=>b
 | _=>[]
def z_k(s:Stmt):Scope:=match s with
 | .FunctionDef _ _ _ _ _ _ sc _ _ _=>sc
 | _=>{ kind:=.function,names:=[],isGenerator:=false,isCoroutine:=false }
abbrev CX0:CXT:=fun _ _ _ _ _ _=>False
abbrev E0:XK:=fun _ _ _=>False
theorem pass0{X:Cx}:Passes CX0 X E0:=fun _ _ _ _ _ _ _ h=>h.elim
structure Fun(K:PySem.W.Frag)(x qual:Str)(st:Stmt)(f:Addr)(fd:FuncData):Prop where
 ex:∃ (oc:Value) (od:Option Addr) (kV doc pm:Value) (an:Option Addr) (cdv ct:Value) (osl:Array (Option Value)),
  fd=fnOf x qual (w_h st) (x_n st) (z_k st) .none kV doc pm an cdv ct/\K.lookup f=some ⟨oc,od,.func fd,osl⟩/\codeIn K cdv qual=true
 kp:keepIn K (.ref f)=true
section
variable {P:Program} {w:World} {K:PySem.W.Frag} {mg:Str->Option Value} {base:Heap}
theorem Fun.ok{x qual:Str}{st:Stmt}{f:Addr}{fd:FuncData}{N ps:List Str}{k:Nat}{sp:Sp}(F:Fun K x qual st f fd)(S:FnScope N ps (z_k st))(len:∀ vs H Q E,sp vs H Q E->vs.length=ps.length)
  (hbody:∀ (cdv:Value) (A:Around) (outer:List Env) (s:Shared) (H:Hp) (vs:List V) (Q:VK) (E:XK),Room k (A.deeper (envOfC qual (z_k st) s.heap.objs.size f cdv))->sp vs H Q E ->
   ∃ t,PSs (cxOf CX0 P w K mg base N qual (z_k st) f cdv A outer s H E).nox (x_n st) t/\t { nx:=fun _ H'=>Q .non H',rt:=Q } (start N vs) H):FnOk P w K mg base CX0 (k+1) f fd ps sp:=by
 obtain ⟨oc,od,kV,doc,pm,an,cdv,ct,osl,rfl,lk,hcd⟩:=F.ex
 refine fn_of lk hcd S len fun A outer s H vs Q E hr hsp=>?_
 obtain ⟨t,h,q⟩:=hbody cdv A outer s H vs Q E hr hsp
 exact ⟨t,h.nox,q⟩
theorem Fun.binds{x qual:Str}{st:Stmt}{f:Addr}{fd:FuncData}{ps:List Str}(F:Fun K x qual st f fd)
  (h:∀ (kV doc pm:Value) (an:Option Addr) (cdv ct:Value) (us:List Value),us.length=ps.length->bindArgs (fnOf x qual (w_h st) (x_n st) (z_k st) .none kV doc pm an cdv ct) ⟨us,[]⟩=pure (ps.zip us)):Binds K fd ps []:=by
 obtain ⟨oc,od,kV,doc,pm,an,cdv,ct,osl,rfl,lk,hcd⟩:=F.ex
 exact .all (h kV doc pm an cdv ct)
theorem fun_mk{x qual:Str}{st:Stmt}{f:Addr}{oc:Value}{od an:Option Addr}{osl:Array (Option Value)}{kV doc pm cdv ct:Value}(l:K.lookup f=some ⟨oc,od,.func (fnOf x qual (w_h st) (x_n st) (z_k st) .none kV doc pm an cdv ct),osl⟩)
  (c:codeIn K cdv qual=true) (k:keepIn K (.ref f)=true):Fun K x qual st f (fnOf x qual (w_h st) (x_n st) (z_k st) .none kV doc pm an cdv ct):=⟨⟨oc,od,kV,doc,pm,an,cdv,ct,osl,rfl,l,c⟩,k⟩
end
section
variable {X:Cx}
theorem pv(i:Nat){x:Str}{pos:Pos}(hN:X.N[i]? = some x:=by rfl)(hv:Vis X.env.scope x:=by first | exact Or.inl rfl | exact Or.inr (Or.inl rfl) | exact Or.inr (Or.inr rfl))(hd:(x == ("__debug__" : Str))=false:=by decide)
  (hcd:(x == ("__classdict__" : Str))=false:=by decide):PE X (.Name x pos) (tVar i):=pe_var hN hv hd hcd
end
theorem iteF{A B:Prop}(h:B):if false=true then A else B:=by
 rw [if_neg Bool.false_ne_true]
 exact h
theorem iteT{A B:Prop}(h:A):if true=true then A else B:=by
 rw [if_pos rfl]
 exact h
theorem ite2{c A B:Prop}[Decidable c](h1:c->A)(h2:¬c->B):if c then A else B:=by
 by_cases h:c
 ·rw [if_pos h]
  exact h1 h
 ·rw [if_neg h]
  exact h2 h
def Same(H H':Hp):Prop:=∀ b o,H b=some o->H' b=some o
theorem Same.refl(H:Hp):Same H H:=fun _ _ h=>h
theorem Same.trans{H H1 H2:Hp}(a:Same H H1)(b:Same H1 H2):Same H H2:=fun c o h=>b c o (a c o h)
theorem Same.free{H H':Hp}(e:Same H H'){l:Addr}(h:H' l=Option.none):H l=Option.none:=by
 cases q:H l with
 | none=>rfl
 | some o =>
  rw [e l o q] at h
  cases h
theorem Same.seq{K:PySem.W.Frag}{H H':Hp}{a:Addr}{xs:List V}(e:Same H H')(h:SqL K H a xs):SqL K H' a xs:=by
 rcases h with (h | ⟨o,h⟩) | h
 ·exact .inl (.inl (e _ _ h))
 ·exact .inl (.inr ⟨o,e _ _ h⟩)
 ·exact .inr h
end L2
namespace L2
open PySem PySem.Spec PyProof.Rows
end L2
namespace L2
open PySem PySem.Spec PyProof.Rows
def clOf(env:Env):List (Str×NameKind)->List (Str×Addr)->List (Str×Addr)
 | [],acc=>acc
 | (n,k)::r,acc=>if (k == NameKind.free)=true then clOf env r ((n,(env.cells.lookup n).getD 0)::acc) else clOf env r acc
theorem y_z{env:Env}{x:Str}:∀ (l:List (Str×NameKind)) (acc:List (Str×Addr)),
  (clOf env l acc).lookup x=if (l.any fun p=>(p.1 == x)&&(p.2 == NameKind.free))=true then some ((env.cells.lookup x).getD 0) else acc.lookup x
 | [],acc=>by simp [clOf]
 | (n,k)::r,acc=>by
  unfold clOf
  by_cases hk:(k == NameKind.free)=true
  ·rw [if_pos hk,y_z r]
   by_cases hr:(r.any fun p=>(p.1 == x)&&(p.2 == NameKind.free))=true
   ·rw [if_pos hr,if_pos]
    rw [List.any_cons,hr,Bool.or_true]
   ·rw [if_neg hr]
    have hr':(r.any fun p=>(p.1 == x)&&(p.2 == NameKind.free))=false:=(Bool.not_eq_true _).mp hr
    rw [List.any_cons,hr',Bool.or_false,hk,Bool.and_true,List.lookup_cons]
    by_cases hn:n=x
    ·subst hn
     simp
    ·have h1:(n == x)=false:=by simpa using hn
     have h2:(x == n)=false:=by simpa using fun z=>hn (Eq.symm z)
     simp [h1,h2]
  ·rw [if_neg hk,y_z r]
   have hk':(k == NameKind.free)=false:=by simpa using hk
   rw [List.any_cons,hk',Bool.and_false,Bool.false_or]
theorem w_f{env:Env}{scope:Scope}(h:∀ n k,(n,k)∈scope.names->(k == NameKind.free)=true->(env.cells.lookup n).isSome=true):closureFor scope env=pure (clOf env scope.names []):=by
 have go:∀ (l:List (Str×NameKind)) (acc:List (Str×Addr)),(∀ n k,(n,k)∈l->(k == NameKind.free)=true->(env.cells.lookup n).isSome=true) ->
   (forIn l acc (fun (x:Str×NameKind) (r:List (Str×Addr))=>match x with
    | (name,kind)=>if (kind == NameKind.free)=true then (do let a <-cellOf env name;pure (ForInStep.yield ((name,a)::r))) else pure (ForInStep.yield r)):Sem (List (Str×Addr)))=pure (clOf env l acc):=by
  intro l
  induction l with
  | nil=>intro acc _;rfl
  | cons p r ih =>
   intro acc hp
   obtain ⟨n,k⟩:=p
   rw [List.forIn_cons]
   unfold clOf
   by_cases hk:(k == NameKind.free)=true
   ·obtain ⟨c,hc⟩:=Option.isSome_iff_exists.mp (hp n k List.mem_cons_self hk)
    have hc1:cellOf env n=pure c:=by simp only [cellOf,hc]
    simp only [hk,if_true,hc1,hc,Option.getD_some]
    have:=ih ((n,c)::acc) (fun n' k' h'=>hp n' k' (List.mem_cons_of_mem _ h'))
    simpa using this
   ·simp only [hk,if_false]
    have:=ih acc (fun n' k' h'=>hp n' k' (List.mem_cons_of_mem _ h'))
    simpa using this
 have:=go scope.names [] h
 simp only [closureFor]
 simpa using this
def compOk(sc out:Scope)(xs:List Str)(cs:List Str):Bool :=
 (sc.kind == .function)&&(out.kind == .function)&&sc.names.all (fun p=>p.2 != NameKind.cell)&&sc.names.all (fun p=>p.2 != NameKind.local || sc.names.lookup p.1 == some .local)&&xs.all (fun x=>sc.names.lookup x == some .local)
  && sc.names.all (fun p=>p.2 != NameKind.free || out.names.lookup p.1 == some .cell)&&cs.all (fun c=>sc.names.lookup c == some .free)
structure CompOk(sc out:Scope)(xs:List Str)(cs:List Str):Prop where
 kind:sc.kind = .function
 okind:out.kind = .function
 cell:∀ y∈sc.names,y.2 ≠ .cell
 names:∀ y∈sc.names,y.2 = .local->sc.names.lookup y.1=some .local
 x:∀ x∈xs,sc.names.lookup x=some .local
 free:∀ n k,(n,k)∈sc.names->k = .free->out.names.lookup n=some .cell
 cs:∀ c∈cs,sc.names.lookup c=some .free
theorem compOk.mk{sc out:Scope}{xs:List Str}{cs:List Str}(h:compOk sc out xs cs=true):CompOk sc out xs cs:=by
 unfold compOk at h
 simp only [Bool.and_eq_true,List.all_eq_true,beq_iff_eq,bne_iff_ne,ne_eq,Bool.or_eq_true] at h
 obtain ⟨⟨⟨⟨⟨⟨h1,h2⟩,h3⟩,h4⟩,h5⟩,h6⟩,h7⟩:=h
 exact ⟨h1,h2,h3,fun y hy hl=>(h4 y hy).resolve_left fun z=>z hl,h5,fun n k hm hk=>(h6 (n,k) hm).resolve_left fun z=>z hk,h7⟩
theorem q_t{sc:Scope}{env:Env}{n:Str}(hk:env.scope.kind = .function)(hout:env.scope.names.lookup n=some .cell)(h:sc.names.lookup n=some .free):(relabel sc env).names.lookup n=some .cell:=by
 unfold relabel
 have go:∀ l:List (Str×NameKind),l.lookup n=some .free ->
   (l.map fun (p:Str×NameKind)=>if (p.2 == NameKind.free&&env.scope.kind == .function&&env.kindOf p.1 == some .cell)=true then (p.1,NameKind.cell) else (p.1,p.2)).lookup n=some .cell:=by
  intro l
  induction l with
  | nil=>intro h;simp at h
  | cons p r ih =>
   intro h
   obtain ⟨m,k⟩:=p
   rw [List.lookup_cons] at h
   cases hm:n == m with
   | true =>
    rw [hm] at h
    cases h
    have e:n=m:=by simpa using hm
    subst e
    have hko:env.kindOf n=some .cell:=hout
    rw [List.map_cons]
    simp [hk,hko]
   | false =>
    rw [hm] at h
    rw [List.map_cons]
    by_cases hc:(k == NameKind.free&&env.scope.kind == .function&&env.kindOf m == some .cell)=true
    ·rw [if_pos hc,List.lookup_cons,hm]
     exact ih h
    ·rw [if_neg hc,List.lookup_cons,hm]
     exact ih h
 exact go sc.names h
def cxComp(X:Cx)(xs:List Str)(capt:List Nat)(scope:Scope)(C:Addr)(s:Shared)(H:Hp)(ex:List Addr):Cx :=
 { X with N:=xs++capt.map (fun j=>X.N.getD j ""),s₀:=s,H₀:=H,env:=compEnvC scope (clOf X.env scope.names []) C X.env,outer:=X.stack,ex:=ex,fn:=fun _=>false,pn:=[] }
def PTs(X:Cx)(ifs:List Expr)(t:TT):Prop :=
 ∀ (pins:List (Addr×Obj)) (s:Shared) (σ:St) (H:Hp) (Q:Bool->Hp->Prop),Inv X pins σ H s->t σ H Q ->
  wpAny (model X.prog X.w) X.A (forIn ifs true fun c r=>if r=true then do let ok <-isTrue c X.env (eval c X.env);pure (ForInStep.yield ok) else pure (ForInStep.yield r)) (TP X pins σ Q) X.xe s
def tYes:TT:=fun _ H Q=>Q true H
theorem y_q{X:Cx}:PTs X [] tYes:=fun pins s σ H Q I h=>by
 show wpAny _ _ (pure true) _ _ _
 exact wpAny_pure ⟨H,I,h⟩
theorem q_c{prog:Program}{w:World}{A:Around}{R:Result->Shared->Prop}{s:Shared}{elt target iter:Expr}{ifs:List Expr}{scope:Scope}{pos:Pos}{it acc:Value}{env:Env}(I:Nat->Shared->Prop)
  (turn:∀ n s,I n s->wpAny (model prog w) A (pyNext it) (fun r s₁=>match r with
   | none=>R (.ok .next) s₁
   | some v=>wpAny (model prog w) A (letOwnedTupleGo target it v) (fun _ s₁'=>wpAny (model prog w) A (assign target env v) (fun _ s₂ =>
     wpAny (model prog w) A (forIn ifs true fun c r=>if r=true then do let ok <-isTrue c env (eval c env);pure (ForInStep.yield ok) else pure (ForInStep.yield r)) (fun ok s₃ =>
      if ok=true then wpAny (model prog w) A (eval elt env) (fun x s₄ =>
       wpAny (model prog w) A (call (.builtin "list.append") [acc,x]) (fun _ s₅=>∃ m,m<n/\I m s₅) (notedBy (model prog w) A env fun e s'=>R (.error e) s') s₄) (notedBy (model prog w) A env fun e s'=>R (.error e) s') s₃
      else ∃ m,m<n/\I m s₃) (notedBy (model prog w) A env fun e s'=>R (.error e) s') s₂) (notedBy (model prog w) A env fun e s'=>R (.error e) s') s₁') (notedBy (model prog w) A env fun e s'=>R (.error e) s') s₁) (notedBy (model prog w) A env fun e s'=>R (.error e) s') s)
  (n:Nat) (h:I n s):codeAny (model prog w) A (.compLoop (.ListComp elt [⟨target,iter,ifs,0⟩] scope pos) 0 it acc env) R s:=by
 refine codeAny_loop rfl I (fun n s hI=>?_) n h
 show wpAny _ A ((compTurn (.ListComp elt [⟨target,iter,ifs,0⟩] scope pos) 0 it acc env).onRaise (fun x=>do noteFrame x env;theTreesLotGoes x)) _ _ s
 refine wpAny_noted ?_
 rw [compTurn_list]
 refine wpAny_bind (wpAny_standAt (wpAny_bind (wpAny_mono (turn n s hI) (fun r s₁ h₁=>?_) fun _ _ h'=>h')))
 cases r with
 | none=>exact wpAny_pure h₁
 | some v =>
  refine wpAny_bind (wpAny_mono h₁ (fun _ s₁' h₁'=>?_) fun _ _ h'=>h')
  refine wpAny_bind (wpAny_mono h₁' (fun _ s₂ h₂=>wpAny_bind (wpAny_mono h₂ (fun ok s₃ h₃=>?_) fun _ _ h'=>h')) fun _ _ h'=>h')
  cases ok with
  | false=>exact wpAny_pure ⟨rfl,h₃⟩
  | true =>
   exact wpAny_bind (wpAny_bind (wpAny_mono h₃ (fun x s₄ h₄=>wpAny_bind (wpAny_mono h₄ (fun _ s₅ h₅=>wpAny_pure (wpAny_pure ⟨rfl,h₅⟩)) fun _ _ h'=>h')) fun _ _ h'=>h'))
section
variable {X:Cx} {pins:List (Addr×Obj)} {σ:St} {H H2:Hp} {s s2:Shared} {xs:List Str} {capt:List Nat} {scope:Scope} {fp:List Addr}
abbrev emptyL:Obj:={ cls:=.type "list",dict:=none,data:=.seq ([]:List Value).toArray }
theorem Inv.stk_lt(I:Inv X pins σ H s){b:Addr}(hb:s.heap.objs.size<=b):b∉frs X.stack:=fun z=>by
 rcases List.mem_cons.mp (I.stkSub b z) with e | e
 ·exact absurd (Nat.lt_of_lt_of_le I.lt hb) (by rw [e];exact Nat.lt_irrefl _)
 ·exact I.nofs hb e
theorem l_c(I:Inv X pins σ H2 s2)(ok:CompOk scope X.env.scope xs (capt.map fun j=>X.N.getD j ""))(hf:∀ b∈fp,FpOk X pins H2 b)(hfo:∀ b∈fp,∃ o,s2.heap.get? b=some o){HH:Heap}(eH:HH=s2.heap.push emptyL) :
  (cxComp X xs capt scope HH.objs.size { s2 with heap:=HH } H2 (s2.heap.objs.size::fp)).Ok:=by
 have hsz:HH.objs.size=s2.heap.objs.size+1:=by rw [eH,Heap.size_push]
 have look:∀ y c,(clOf X.env scope.names []).lookup y=some c->X.env.cells.lookup y=some c:=fun y c e=>by
  rw [y_z] at e
  split at e
  ·rename_i ha
   obtain ⟨p,hp,hq⟩:=List.any_eq_true.mp ha
   simp only [Bool.and_eq_true,beq_iff_eq] at hq
   obtain ⟨q1,q2⟩:=hq
   subst q1
   obtain ⟨c',hc'⟩:=I.ok.has p.1 (.inl (ok.free p.1 p.2 hp q2))
   rw [hc'] at e ⊢
   exact e
  ·cases e
 have keep:∀ b o,s2.heap.get? b=some o->HH.get? b=some o:=fun b o e=>by rw [eH];exact Heap.get?_push_of_some _ e
 refine ⟨I.ok.mod,ok.kind,I.ok.glob,I.ok.blt,Nat.le_refl _,fun y z c h1 h2=>I.ok.inj y z c (look y c h1) (look z c h2),fun y hy=>?_,(fun y c h _=>nomatch h),I.ok.hd,I.ok.frames,I.ok.gd,.inl rfl,fun b hb=>?_,fun b o e=>?_,?_,fun b o e hb=>?_,fun b hb=>?_,?_,fun b hb=>I.stkFree b hb⟩
 ·-- each cell's name has its cell
  have hy':(relabel scope X.env).names.lookup y=some .cell\/(relabel scope X.env).names.lookup y=some .free:=hy
  have inn:∀ (l:List (Str×NameKind)) (k:NameKind),(∀ p∈l,p.2 ≠ .cell)->(k = .cell\/k = .free) ->
    (l.map fun (p:Str×NameKind)=>if (p.2 == NameKind.free&&X.env.scope.kind == .function&&X.env.kindOf p.1 == some .cell)=true then (p.1,NameKind.cell) else (p.1,p.2)).lookup y=some k->∃ p∈l,p.1=y/\p.2 = .free:=by
   intro l k hnc hkk
   induction l with
   | nil=>intro h;simp at h
   | cons p r ih =>
    intro h
    obtain ⟨m,k'⟩:=p
    rw [List.map_cons] at h
    by_cases hc:(k' == NameKind.free&&X.env.scope.kind == .function&&X.env.kindOf m == some .cell)=true
    ·rw [if_pos hc,List.lookup_cons] at h
     have hfree:k' = .free:=by
      simp only [Bool.and_eq_true,beq_iff_eq] at hc
      exact hc.1.1
     cases hm:y == m with
     | true=>exact ⟨(m,k'),List.mem_cons_self,by simpa using Eq.symm (by simpa using hm),hfree⟩
     | false =>
      rw [hm] at h
      obtain ⟨p,hp,q⟩:=ih (fun p hp=>hnc p (List.mem_cons_of_mem _ hp)) h
      exact ⟨p,List.mem_cons_of_mem _ hp,q⟩
    ·rw [if_neg hc,List.lookup_cons] at h
     cases hm:y == m with
     | true =>
      rw [hm] at h
      cases h
      rcases hkk with z | z
      ·exact absurd z (hnc (m,k') List.mem_cons_self)
      ·exact ⟨(m,k'),List.mem_cons_self,by simpa using Eq.symm (by simpa using hm),z⟩
     | false =>
      rw [hm] at h
      obtain ⟨p,hp,q⟩:=ih (fun p hp=>hnc p (List.mem_cons_of_mem _ hp)) h
      exact ⟨p,List.mem_cons_of_mem _ hp,q⟩
  have hex:∃ p∈scope.names,p.1=y/\p.2 = .free:=by
   rcases hy' with h | h
   ·exact inn scope.names .cell ok.cell (.inl rfl) h
   ·exact inn scope.names .free ok.cell (.inr rfl) h
  obtain ⟨p,hp,q1,q2⟩:=hex
  refine ⟨_,(y_z (env:=X.env) scope.names []).trans (if_pos (List.any_eq_true.mpr ⟨p,hp,?_⟩))⟩
  simp [q1,q2]
 ·-- the records that turn are not the frame's
  rcases List.mem_cons.mp hb with z | z
  ·subst z
   refine ⟨Nat.ne_of_lt (show s2.heap.objs.size<HH.objs.size by lia),fun y c e q=>?_⟩
   obtain ⟨v,hv⟩:=I.cell y c (look y c e)
   have:=hv.lt
   rw [q] at this
   exact absurd this (Nat.lt_irrefl _)
  ·obtain ⟨o,ho⟩:=hfo b z
   exact ⟨Nat.ne_of_lt (Nat.lt_of_lt_of_le (Heap.lt_size ho) (show s2.heap.objs.size<=HH.objs.size by lia)),fun y c e=>(hf b z).2.2.2.2.1 y c (look y c e)⟩
 ·obtain ⟨h1,h2⟩:=I.bs b o e
  exact ⟨keep b o h1,h2⟩
 ·show X.base.objs.size<=HH.objs.size
  have h1:=I.ok.bsz
  have h2:=I.sz
  lia
 ·-- the base's objects do not turn
  have h0:=(I.bs b o e).1
  rcases List.mem_cons.mp hb with z | z
  ·subst z
   exact absurd (Heap.lt_size h0) (Nat.lt_irrefl _)
  ·rcases (hf b z).2.2.2.1 with q | q
   ·exact I.ok.noex b o e q
   ·have h1:=(I.ok.bs b o e).1
    exact absurd (Nat.lt_of_lt_of_le (Heap.lt_size h1) q) (Nat.lt_irrefl _)
 ·show b∉frs X.stack
  rcases List.mem_cons.mp hb with z | z
  ·subst z
   exact I.stk_lt (Nat.le_refl _)
  ·intro q
   rcases List.mem_cons.mp (I.stkSub b q) with e | e
   ·exact (hf b z).2.1 e
   ·exact (hf b z).2.2.1 e
 ·show HH.FunFrames X.base X.stack
  exact Heap.FunFrames.of_keeps (fun b o e _=>⟨o,keep b o e,rfl⟩) I.stack
theorem comp_inv(I:Inv X pins σ H2 s2)(ok:CompOk scope X.env.scope xs (capt.map fun j=>X.N.getD j ""))(hcap:∀ j∈capt,j<X.N.length)(hf:∀ b∈fp,FpOk X pins H2 b)(hfo:∀ b∈fp,∃ o,s2.heap.get? b=some o)
  {HH h1:Heap} {t:Nat} {m:Str->Option Value} {oc:Obj} (eH:HH=s2.heap.push emptyL) (hns:h1.Ns HH.objs.size m) (hsb:Heap.SameBut HH.objs.size (HH.push oc) h1) :
  Inv (cxComp X xs capt scope HH.objs.size { s2 with heap:=HH } H2 (s2.heap.objs.size::fp)) [(s2.heap.objs.size,emptyL)] (List.replicate xs.length none++capt.map fun j=>(σ[j]?).join) H2 { s2 with heap:=h1,toks:=t }:=by
 have hsz:HH.objs.size=s2.heap.objs.size+1:=by rw [eH,Heap.size_push]
 have look:∀ y c,(clOf X.env scope.names []).lookup y=some c->X.env.cells.lookup y=some c:=fun y c e=>by
  rw [y_z] at e
  split at e
  ·rename_i ha
   obtain ⟨p,hp,hq⟩:=List.any_eq_true.mp ha
   simp only [Bool.and_eq_true,beq_iff_eq] at hq
   obtain ⟨q1,q2⟩:=hq
   subst q1
   obtain ⟨c',hc'⟩:=I.ok.has p.1 (.inl (ok.free p.1 p.2 hp q2))
   rw [hc'] at e ⊢
   exact e
  ·cases e
 have keep0:∀ b o,HH.get? b=some o->h1.get? b=some o:=fun b o e=>hsb.extBut b o (Nat.ne_of_lt (Heap.lt_size e)) (Heap.get?_push_of_some _ e)
 have keep:∀ b o,s2.heap.get? b=some o->h1.get? b=some o:=fun b o e=>keep0 b o (by rw [eH];exact Heap.get?_push_of_some _ e)
 have hD:h1.get? s2.heap.objs.size=some emptyL:=keep0 _ _ (by rw [eH];exact Heap.get?_push_size _ rfl)
 refine ⟨l_c I ok hf hfo eH,rfl,I.bare,Un.kept keep0,⟨m,hns,fun i y v h1' h2 h3=>?_⟩,fun y c e=>?_,I.hok.fresh (show s2.heap.objs.size<=HH.objs.size by lia),fun y c e=>I.freeC y c (look y c e),fun p hp=>?_,I.hok.kept keep,?_⟩
 ·by_cases hi:i<xs.length
  ·have h2':(List.replicate xs.length (none:Option V))[i]? = some (some v):=by
    rw [<-List.getElem?_append_left (l₂:=capt.map fun j=>(σ[j]?).join) (by simpa using hi)]
    exact h2
   rw [List.getElem?_replicate_of_lt hi] at h2'
   cases h2'
  ·have h1'':(capt.map fun j=>X.N.getD j "")[i-xs.length]? = some y:=by
    rw [<-List.getElem?_append_right (l₁:=xs) (by lia)]
    exact h1'
   have h2':(capt.map fun j=>(σ[j]?).join)[i-xs.length]? = some (some v):=by
    have q:=List.getElem?_append_right (l₁:=List.replicate xs.length (none:Option V)) (l₂:=capt.map fun j=>(σ[j]?).join) (i:=i) (by simpa using hi)
    rw [List.length_replicate] at q
    rw [<-q]
    exact h2
   rw [List.getElem?_map] at h1'' h2'
   cases hj:capt[i-xs.length]? with
   | none=>rw [hj] at h1'';cases h1''
   | some j =>
    rw [hj] at h1'' h2'
    have ey:X.N.getD j "" = y:=by simpa using h1''
    have ev:(σ[j]?).join=some v:=by simpa using h2'
    have hjm:j∈capt:=List.mem_of_getElem? hj
    have hjl:=hcap j hjm
    have hN:X.N[j]? = some y:=by
     rw [List.getD_eq_getElem?_getD,List.getElem?_eq_getElem hjl] at ey
     rw [List.getElem?_eq_getElem hjl]
     simpa using ey
    have hσ:σ[j]? = some (some v):=by
     cases e:σ[j]? with
     | none=>rw [e] at ev;cases ev
     | some o=>rw [e] at ev;have ev':o=some v:=ev;rw [ev']
    have hfr:scope.names.lookup y=some .free:=ok.cs y (List.mem_map.mpr ⟨j,hjm,ey⟩)
    have hout:X.env.scope.names.lookup y=some .cell:=ok.free y .free (PySem.mem_of_lookup hfr) rfl
    obtain ⟨mX,_,hl⟩:=I.loc
    obtain ⟨u,ru,lk⟩:=hl j y v hN hσ (.inr (.inl hout))
    refine ⟨u,ru,?_⟩
    have hko:X.env.kindOf y=some .cell:=hout
    rcases lk with ⟨z,_⟩ | ⟨_,c,hc,hcell⟩
    ·rw [hko] at z;cases z
    ·refine .inr ⟨.inl (q_t ok.okind hout hfr),c,?_,hcell.keeps keep⟩
     show (clOf X.env scope.names []).lookup y=some c
     rw [y_z,if_pos (List.any_eq_true.mpr ⟨(y,.free),PySem.mem_of_lookup hfr,by simp⟩),hc]
     rfl
 ·obtain ⟨v,hv⟩:=I.cell y c (look y c e)
  exact ⟨v,hv.keeps keep⟩
 ·have hp':p=(s2.heap.objs.size,emptyL):=by simpa [cxComp] using hp
  subst hp'
  refine ⟨hD,I.hok.fresh (Nat.le_refl _),Nat.ne_of_lt (show s2.heap.objs.size<HH.objs.size by lia),I.stk_lt (Nat.le_refl _),fun v z=>by cases z⟩
 ·show _=(xs++capt.map fun j=>X.N.getD j "").length
  simp
def CompG(J:It)(n:Nat)(c:St)(g:TG)(tt:TT)(te:TE)(H1:Hp)(Fin:List V->Hp->Prop):Prop :=
 ∃ W:Nat->Nat->List V->Hp->Prop,(∃ m,W 0 m [] H1)/\∀ i m ys H,W i m ys H->(J.stop i H/\Fin ys H) \/
  (J.go i H/\ys.length<sizeLine/\∃ N:List V->Hp->Prop,(∀ ys' H',N ys' H'->∃ m',m'<m/\W (i+1) m' ys' H') /\
   ∀ x H',J.yld i H x H'->∀ os:St,os.length=n->g x (os++c) H' fun σ1 H1=>tt σ1 H1 fun b H2=>if b=true then te σ1 H2 fun y H3=>N (ys++[y]) H3 else N ys H2)
def tCompG(n:Nat)(g:TG)(capt:List Nat)(wi:TI)(tt:TT)(te:TE):TE:=fun σ H Q=>wi σ H fun J H1 =>
 CompG J n (capt.map fun j=>(σ[j]?).join) g tt te H1 fun ys H=>∀ l,H l=none->Q (.ref l) (upd H l (.lst ys))
def Shp(n:Nat)(g:TG):Prop:=∀ v (os c:St) H Q,os.length=n->g v (os++c) H Q->g v (os++c) H fun σ' H'=>(∃ os':St,os'.length=n/\σ'=os'++c)/\Q σ' H'
def CompW(J:It)(S:V->St)(tt:TT)(te:TE)(H1:Hp)(Fin:List V->Hp->Prop):Prop :=
 ∃ W:Nat->Nat->List V->Hp->Prop,(∃ m,W 0 m [] H1)/\∀ i m ys H,W i m ys H->(J.stop i H/\Fin ys H) \/
  (J.go i H/\ys.length<sizeLine/\∃ N:List V->Hp->Prop,(∀ ys' H',N ys' H'->∃ m',m'<m/\W (i+1) m' ys' H') /\
   ∀ x H',J.yld i H x H'->tt (S x) H' fun b H2=>if b=true then te (S x) H2 fun y H3=>N (ys++[y]) H3 else N ys H2)
def tComp(capt:List Nat)(wi:TI)(tt:TT)(te:TE):TE:=fun σ H Q=>wi σ H fun J H1 =>
 CompW J (fun x=>some x::capt.map fun j=>(σ[j]?).join) tt te H1 fun ys H=>∀ l,H l=none->Q (.ref l) (upd H l (.lst ys))
theorem CompW.g{J:It}{c:St}{tt:TT}{te:TE}{H:Hp}{Fin:List V->Hp->Prop}(h:CompW J (fun x=>some x::c) tt te H Fin):CompG J 1 c (gName 0) tt te H Fin:=by
 obtain ⟨W,w0,st⟩:=h
 refine ⟨W,w0,fun i m ys H w=>?_⟩
 rcases st i m ys H w with q | ⟨go,hl,N,hN,step⟩
 ·exact .inl q
 ·refine .inr ⟨go,hl,N,hN,fun x H' y os hos=>?_⟩
  obtain ⟨o,rfl⟩:=List.length_eq_one_iff.mp hos
  exact step x H' y
theorem n_e:Shp 1 (gName 0):=fun v os c H Q hos h=>by
 obtain ⟨o,rfl⟩:=List.length_eq_one_iff.mp hos
 exact ⟨⟨[some v],rfl,rfl⟩,h⟩
theorem x_s{K:PySem.W.Frag}:Shp 2 (gTup K 2 (gCons (gName 0) (gCons (gName 1) gNil))):=fun v os c H Q hos h=>by
 match os,hos with
 | [a,b],_ =>
 obtain ⟨p,xs,rfl,hp,hl,v1,r1,rfl,v2,r2,rfl,rfl,q⟩:=h
 exact ⟨p,_,rfl,hp,hl,v1,_,rfl,v2,_,rfl,rfl,⟨[some v1,some v2],rfl,rfl⟩,q⟩
theorem HOk.track{P:Program}{w:World}{H:Hp}{h:Heap}{a:Addr}{o:HO}(k:HOk P w H h)(n:H a=none)(new:ObjOk P w (upd H a o) h a o):HOk P w (upd H a o) h:=fun b u e=>by
 by_cases hb:b=a
 ·subst hb;rw [z_d] at e;cases e;exact new
 ·rw [z_m hb] at e
  exact (k b u e).stay (fun _ _ _ q=>q) (fun c q=>by rw [z_m (z_h q n)];exact q) (fun c xs q=>by rw [z_m (z_h q n)];exact q) fun c ob xs q=>by rw [z_m (z_h q n)];exact q
theorem v_i{elt iter tg:Expr}{g:TG}{ifs:List Expr}{pos:Pos}{tt:TT}{te:TE}{it:Addr}{tn:Nat->Heap->Prop}{J:It}{RR:Value->Addr->Result->Shared->Prop}
  (hx0:∀ e s,¬X.xe e s) (hc:X.calm=true) (ok:CompOk scope X.env.scope xs (capt.map fun j=>X.N.getD j "")) (hcap:∀ j∈capt,j<X.N.length) (hG:∀ C s H ex,PG (cxComp X xs capt scope C s H ex) tg g) (hgs:Shp xs.length g)
  (hT:∀ C s H ex,PTs (cxComp X xs capt scope C s H ex) ifs tt) (hE:∀ C s H ex,PE (cxComp X xs capt scope C s H ex) elt te)
  (I2:Inv X pins σ H2 s2) (T:Turn X.prog X.w X.K tg J fp it tn) (st2:tn 0 s2.heap) (f2:∀ b∈fp,FpOk X pins H2 b)
  (Fin:List V->Hp->Prop) (hW:CompG J xs.length (capt.map fun j=>(σ[j]?).join) g tt te H2 Fin)
  (hRR:∀ D C s' ys H' oc,H' D=none->Fin ys H'->Inv X pins σ (upd H' D (.lst ys)) s'->s'.heap.get? C=some oc->(∃ m,s'.heap.Ns C m)->C≠D->H' C=none->C≠X.env.locals->C∉frs X.stack->X.s₀.heap.objs.size<=C->(∀ y c,X.env.cells.lookup y=some c->c≠C)->(∀ p∈X.pn++pins,p.1≠C) ->
   (∀ v,oc.data ≠ .cell v)->RR (.ref D) C (.ok .next) s') :
  wpAny (model X.prog X.w) X.A (newList []) (fun acc s₃=>wpAny (model X.prog X.w) X.A (newFunctionEnv scope X.env.globals (clOf X.env scope.names []) [] X.env.qual none .none (some X.env)) (fun cenv s₄ =>
   codeAny (model X.prog X.w) X.A (.compStart (.ListComp elt [⟨tg,iter,ifs,0⟩] scope pos) 0 (.ref it) acc { cenv with scope:=relabel scope X.env }) (RR acc cenv.locals) s₄) X.xe s₃) X.xe s2:=by
 refine wpAny_newObj_type (wpAny_newFunctionEnv ok.cell (by intro y hy;simp at hy) (fun h1 hns hsb=>?_) ok.kind)
 dsimp only at hns hsb ⊢
 generalize eH:s2.heap.push { cls:=.type "list",dict:=none,data:=.seq ([]:List Value).toArray }=HH at hns hsb ⊢
 have eH':HH=s2.heap.push emptyL:=eH.symm
 have hsz:HH.objs.size=s2.heap.objs.size+1:=by rw [eH',Heap.size_push]
 have hfo:∀ b∈fp,∃ o,s2.heap.get? b=some o:=fun b hb=>let ⟨o,ho,_⟩:=T.obj 0 _ st2 b hb;⟨o,ho⟩
 have flt:∀ b∈fp,b<s2.heap.objs.size:=fun b hb=>let ⟨o,ho⟩:=hfo b hb;Heap.lt_size ho
 have keep1:∀ b o,s2.heap.get? b=some o->h1.get? b=some o:=fun b o e =>
  hsb.extBut b o (Nat.ne_of_lt (Nat.lt_of_lt_of_le (Heap.lt_size e) (show s2.heap.objs.size<=HH.objs.size by lia))) (Heap.get?_push_of_some _ (by rw [eH'];exact Heap.get?_push_of_some _ e))
 have I4:=comp_inv (t:=s2.toks+([]:List (Str×Value)).length) I2 ok hcap f2 hfo eH' hns hsb
 have st4:tn 0 h1:=T.keep 0 _ _ st2 fun b _ o e=>keep1 b o e
 obtain ⟨W,⟨m0,w0⟩,turn⟩:=hW
 generalize hX:cxComp X xs capt scope HH.objs.size { s2 with heap:=HH } H2 (s2.heap.objs.size::fp)=Y at I4
 have eProg:Y.prog=X.prog:=by rw [<-hX];rfl
 have eW:Y.w=X.w:=by rw [<-hX];rfl
 have eK:Y.K=X.K:=by rw [<-hX];rfl
 have eA:Y.A=X.A:=by rw [<-hX];rfl
 have eEnv:Y.env=compEnvC scope (clOf X.env scope.names []) HH.objs.size X.env:=by rw [<-hX];rfl
 have eXe:Y.xe=X.xe:=by rw [<-hX];rfl
 have eCalm:Y.calm=true:=by rw [<-hX];exact hc
 have ePn:Y.pn=[]:=by rw [<-hX];rfl
 have eEx:Y.ex=s2.heap.objs.size::fp:=by rw [<-hX];rfl
 have eFs:Y.fs=frs X.stack:=by rw [<-hX];rfl
 have hT':PTs Y ifs tt:=by rw [<-hX];exact hT _ _ _ _
 have hE':PE Y elt te:=by rw [<-hX];exact hE _ _ _ _
 have hG':PG Y tg g:=by rw [<-hX];exact hG _ _ _ _
 have eH0:Y.H₀=H2:=by rw [<-hX];rfl
 have eS0:Y.s₀={ s2 with heap:=HH }:=by rw [<-hX];rfl
 have eL:Y.env.locals=HH.objs.size:=by rw [eEnv];rfl
 have ecl:Y.env.cells=clOf X.env scope.names []:=by rw [eEnv];rfl
 have look:∀ y c,(clOf X.env scope.names []).lookup y=some c->X.env.cells.lookup y=some c:=fun y c e=>by
  rw [y_z] at e
  split at e
  ·rename_i ha
   obtain ⟨p,hp,hq⟩:=List.any_eq_true.mp ha
   simp only [Bool.and_eq_true,beq_iff_eq] at hq
   obtain ⟨q1,q2⟩:=hq
   subst q1
   obtain ⟨c',hc'⟩:=I2.ok.has p.1 (.inl (ok.free p.1 p.2 hp q2))
   rw [hc'] at e ⊢
   exact e
  ·cases e
 have fpOk:∀ {pins':List (Addr×Obj)} {H':Hp},(∀ b∈fp,H' b=none)->(∀ p∈pins',p.1∉fp)->∀ b∈fp,FpOk Y pins' H' b:=fun {pins' H'} hn hp b hb=>by
  have hlt:=flt b hb
  refine ⟨hn b hb,by rw [eL];exact Nat.ne_of_lt (Nat.lt_of_lt_of_le hlt (show s2.heap.objs.size<=HH.objs.size by lia)),?_,.inl (by rw [eEx];exact List.mem_cons_of_mem _ hb),fun y c e=>(f2 b hb).2.2.2.2.1 y c (look y c (by rw [<-ecl];exact e)),fun p hpp z=>?_⟩
  ·rw [eFs]
   intro q
   rcases List.mem_cons.mp (I2.stkSub b q) with e | e
   ·exact (f2 b hb).2.1 e
   ·exact (f2 b hb).2.2.1 e
  ·rw [ePn,List.nil_append] at hpp
   exact hp p hpp (by rw [z];exact hb)
 have Dnf:s2.heap.objs.size∉fp:=fun z=>absurd (flt _ z) (Nat.lt_irrefl _)
 have loop:codeAny (model X.prog X.w) X.A (.compLoop (.ListComp elt [⟨tg,iter,ifs,0⟩] scope pos) 0 (.ref it) (.ref s2.heap.objs.size) Y.env) (RR (.ref s2.heap.objs.size) HH.objs.size) { s2 with heap:=h1,toks:=s2.toks+([]:List (Str×Value)).length }:=by
  refine q_c (fun n s'=>∃ i ys its k os H',Inv Y [(s2.heap.objs.size,{ cls:=.type "list",data:=.seq its.toArray k })] (os++capt.map fun j=>(σ[j]?).join) H' s'/\os.length=xs.length/\Vals ys its/\ys.length<=sizeLine/\tn i s'.heap/\(∀ b∈fp,H' b=none)/\W i n ys H') ?_ m0
   ⟨0,[],[],0,_,H2,I4,List.length_replicate,.nil,Nat.zero_le _,st4,fun b hb=>(f2 b hb).1,w0⟩
  rintro n s3 ⟨i,ys,its,k,os,H3,I3,hos,rv,hys,st3,fr3,w3⟩
  have noErr:∀ {e:Value} {s:Shared},X.xe e s->notedBy (model X.prog X.w) X.A Y.env (fun e s'=>RR (.ref s2.heap.objs.size) HH.objs.size (.error e) s') e s:=fun {e s} z=>(hx0 e s z).elim
  have pinD:=I3.pin (s2.heap.objs.size,{ cls:=.type "list",data:=.seq its.toArray k }) (by simp)
  have fp3:=fpOk (pins':=[(s2.heap.objs.size,{ cls:=.type "list",data:=.seq its.toArray k })]) fr3 (by simpa using Dnf)
  rcases turn i n ys H3 w3 with ⟨stop,fin⟩ | ⟨go,hlt,N,hN,step⟩
  ·-- it stops
   have d:=T.done Y eProg eW eK eCalm i _ s3 _ H3 X.xe I3 fp3 st3 stop
   rw [eA] at d
   refine wpAny_mono d (fun r s4 ⟨hr,I4'⟩=>?_) fun e s z=>noErr z
   subst hr
   show RR (.ref s2.heap.objs.size) HH.objs.size (.ok .next) s4
   have pinD4:=I4'.pin (s2.heap.objs.size,{ cls:=.type "list",data:=.seq its.toArray k }) (by simp)
   obtain ⟨mC,nsC,_⟩:=I4'.loc
   rw [eL] at nsC
   obtain ⟨oC,esC,epC,hoC,hdC,_⟩:=id nsC
   have base4:=I4'.base
   rw [eFs,eEx,eH0,eS0] at base4
   have hCn:H3 HH.objs.size=none:=by rw [<-eL];exact I4'.free
   refine hRR s2.heap.objs.size HH.objs.size s4 ys H3 oC pinD4.2.1 fin ?_ hoC ⟨mC,nsC⟩ (Nat.ne_of_gt (show s2.heap.objs.size<HH.objs.size by lia)) hCn (Nat.ne_of_gt (Nat.lt_of_lt_of_le I2.lt (show s2.heap.objs.size<=HH.objs.size by lia))) (I2.stk_lt (by lia)) (by have:=I2.sz;lia) (fun y c e z=>?_) (fun p hp z=>?_) (fun v z=>by rw [hdC] at z;cases z)
   ·have hok4:=I4'.hok
    rw [eProg,eW] at hok4
    have hbl:∀ b ob,s2.heap.get? b=some ob->b∉fp->HH.get? b=some ob/\b∉s2.heap.objs.size::fp:=fun b ob e hm =>
     ⟨by rw [eH'];exact Heap.get?_push_of_some _ e,fun z=>(List.mem_cons.mp z).elim (fun q=>absurd (Heap.lt_size e) (by rw [q];exact Nat.lt_irrefl _)) hm⟩
    refine I2.call' (ch:=fp) (by rw [I4'.os,eS0]) ⟨fun b ob e nn hb hx=>?_,fun b ob e nn hb hx=>?_,fun b ob e nn hx=>?_,fun b ob e hx=>?_,fun b xs e=>?_,fun b ob u e=>?_,fun b pp qq e=>?_⟩ (HOk.track hok4 pinD4.2.1 ⟨hys,its,k,rv,pinD4.1⟩) I4'.bare fun b hb=>⟨(f2 b hb).2.2.2.1,(f2 b hb).2.1,(f2 b hb).2.2.2.2.1,(f2 b hb).2.2.2.2.2⟩
    ·obtain ⟨h1',h2'⟩:=hbl b ob e hx
     exact base4.keep b ob h1' nn hb h2'
    ·obtain ⟨h1',h2'⟩:=hbl b ob e hx
     exact base4.slot b ob h1' nn hb h2'
    ·obtain ⟨h1',h2'⟩:=hbl b ob e hx
     rw [z_m (Nat.ne_of_lt (Heap.lt_size e))]
     exact base4.free b ob h1' nn h2'
    ·obtain ⟨h1',h2'⟩:=hbl b ob e hx
     exact base4.there b ob h1' h2'
    ·have q:=base4.tups b xs e
     rw [z_m (z_h q pinD4.2.1)]
     exact q
    ·have q:=base4.frzs b ob u e
     rw [z_m (z_h q pinD4.2.1)]
     exact q
    ·have q:=base4.tbls b pp qq e
     rw [z_m (z_h q pinD4.2.1)]
     exact q
   ·obtain ⟨v,hv⟩:=I2.cell y c e
    have:=hv.lt
    rw [z] at this
    exact absurd this (Nat.not_lt.mpr (show s2.heap.objs.size<=HH.objs.size by lia))
   ·have:=Heap.lt_size (I2.pin p hp).1
    rw [z] at this
    exact absurd this (Nat.not_lt.mpr (show s2.heap.objs.size<=HH.objs.size by lia))
  ·-- one turn
   have d:=T.item Y eProg eW eK eCalm i _ s3 _ H3 X.xe I3 fp3 st3 go
   rw [eA] at d
   refine wpAny_mono d (fun r s4 ⟨u,hr,h4⟩=>?_) fun e s z=>noErr z
   subst hr
   refine wpAny_mono h4 (fun _ s5 ⟨v,H5,I5,r5,y5,st5,fr5⟩=>?_) fun e s z=>noErr z
   have fp5:=fpOk (pins':=[(s2.heap.objs.size,{ cls:=.type "list",data:=.seq its.toArray k })]) fr5 (by simpa using Dnf)
   have I5':=I5.pinned fp5 (T.obj _ _ st5)
   have pg':=hG' _ s5 _ H5 v u _ I5' r5 (hgs v os _ H5 _ hos (step v H5 y5 os hos))
   rw [eProg,eW,eA,eXe] at pg'
   refine wpAny_mono pg' (fun _ s6 ⟨σ6,H6,I6,⟨os6,hos6,e6⟩,q6⟩=>?_) fun e s z=>noErr z
   subst e6
   have t6:=hT' _ s6 _ H6 _ I6 q6
   rw [eProg,eW,eA,eXe] at t6
   refine wpAny_mono t6 (fun b s7 ⟨H7,I7,q7⟩=>?_) fun e s z=>noErr z
   have ntn:∀ {σ':St} {H':Hp} {s':Shared},Inv Y ([(s2.heap.objs.size,{ cls:=.type "list",data:=.seq its.toArray k })]++pinsAt fp s5.heap) σ' H' s'->tn (i+1) s'.heap/\∀ b∈fp,H' b=none:=fun {σ' H' s'} J'=>by
    refine ⟨T.keep _ _ _ st5 fun b hb o e=>(J'.pin (b,o) (List.mem_append_right _ (List.mem_append_right _ (v_k hb e)))).1,fun b hb=>?_⟩
    obtain ⟨o,e,_⟩:=T.obj _ _ st5 b hb
    exact (J'.pin (b,o) (List.mem_append_right _ (List.mem_append_right _ (v_k hb e)))).2.1
   cases b with
   | false =>
    rw [if_neg Bool.false_ne_true] at q7
    obtain ⟨m',hm,w7⟩:=hN _ _ q7
    rw [if_neg Bool.false_ne_true]
    exact ⟨m',hm,i+1,ys,its,k,os6,H7,I7.unpinned,hos6,rv,hys,(ntn I7).1,(ntn I7).2,w7⟩
   | true =>
    rw [if_pos rfl] at q7
    rw [if_pos rfl]
    have e7:=hE' _ s7 _ H7 _ I7 q7
    rw [eProg,eW,eA,eXe] at e7
    refine wpAny_mono e7 (fun uy s8 ⟨y,H8,I8,r8,n8⟩=>?_) fun e s z=>noErr z
    obtain ⟨m',hm,w8⟩:=hN _ _ n8
    have pin8:=I8.pin (s2.heap.objs.size,{ cls:=.type "list",data:=.seq its.toArray k }) (by simp)
    have hlen:ys.length=its.length:=rv.length
    refine wpAny_list_append_plain (hsz:=by rw [List.size_toArray];lia) ⟨k,pin8.1⟩ fun h9 ⟨k9,hl9⟩ hs9=>?_
    have hk9:∀ b o,b≠s2.heap.objs.size->s8.heap.get? b=some o->h9.get? b=some o:=fun b o hb e=>(hs9.2 b hb).trans e
    have I8u:Inv Y (pinsAt fp s5.heap) (os6++capt.map fun j=>(σ[j]?).join) H8 s8:=I8.pins_of fun p hp=>I8.pin p (List.mem_append_right _ (List.mem_append_right _ hp))
    have I9:Inv Y (pinsAt fp s5.heap) (os6++capt.map fun j=>(σ[j]?).join) H8 { s8 with heap:=h9,toks:=s8.toks }:=I8u.turned (it:=s2.heap.objs.size) hk9 pin8.2.1 (by rw [eL];exact Nat.ne_of_lt (show s2.heap.objs.size<HH.objs.size by lia)) (.inl (by rw [eEx];exact List.mem_cons_self))
     (fun y c e z=>by
      rw [ecl] at e
      obtain ⟨v',hv⟩:=I2.cell y c (look y c e)
      have:=hv.lt
      rw [z] at this
      exact absurd this (Nat.lt_irrefl _))
     (fun p hp z=>by
      rw [ePn,List.nil_append] at hp
      exact Dnf (by rw [<-z];exact (q_j hp).1))
    have hl9':h9.get? s2.heap.objs.size=some { cls:=.type "list",data:=.seq (its++[uy]).toArray k9 }:=by
     rw [hl9];simp
    refine ⟨m',hm,i+1,ys++[y],its++[uy],k9,os6,H8,I9.pins_of fun p hp=>?_,hos6,rv.append (.cons r8 .nil),?_,?_,(ntn I8).2,w8⟩
    ·have hp':p=(s2.heap.objs.size,{ cls:=.type "list",data:=.seq (its++[uy]).toArray k9 }):=by simpa using hp
     subst hp'
     exact ⟨hl9',pin8.2.1,pin8.2.2.1,pin8.2.2.2.1,fun v z=>by cases z⟩
    ·rw [List.length_append,List.length_singleton];lia
    ·refine T.keep _ _ _ (ntn I8).1 fun b hb o e=>hk9 b o (fun z=>Dnf (by rw [<-z];exact hb)) e
 rw [eEnv] at loop
 refine codeAny_compStart_list ?_ ?_
 ·exact loop
 ·exact T.self _ 0 _ _ _ st4 loop
theorem u_b{elt iter tg:Expr}{g:TG}{ifs:List Expr}{pos:Pos}{wi:TI}{tt:TT}{te:TE}(xs:List Str)(capt:List Nat)
  (hx0:∀ e s,¬X.xe e s) (hc:X.calm=true) (hi:PI X tg iter wi) (hG:∀ C s H ex,PG (cxComp X xs capt scope C s H ex) tg g) (hgs:Shp xs.length g)
  (hT:∀ C s H ex,PTs (cxComp X xs capt scope C s H ex) ifs tt) (hE:∀ C s H ex,PE (cxComp X xs capt scope C s H ex) elt te)
  (hk:compOk scope X.env.scope xs (capt.map fun j=>X.N.getD j "")=true) (hcap:∀ j∈capt,j<X.N.length)
  (hs:∀ y,foldedSetIterable iter X.env y=pure y:=by intro _;rfl):PE X (.ListComp elt [⟨tg,iter,ifs,0⟩] scope pos) (tCompG xs.length g capt wi tt te):=by
 intro pins s σ H Q I h
 have ok:=compOk.mk hk
 rw [eval_ListComp]
 refine wpAny_comprehension_free (use:=none) (cl:=clOf X.env scope.names []) rfl hs (w_f fun n k hm hf=>?_) ok.kind ok.names (thn (hi pins s σ H _ I h) fun xv s1 h1=>thn h1 fun itv s2 h2=>?_)
 ·obtain ⟨c,e⟩:=I.ok.has n (.inl (ok.free n k hm (by simpa using hf)))
  rw [e];rfl
 ·obtain ⟨it,fp,tn,J,H2,e,I2,T,st2,f2,hW⟩:=h2
  subst e
  refine v_i (RR:=fun acc C=>compPost (model X.prog X.w) X.A X.xe none (EP X pins σ Q) acc C) hx0 hc ok hcap hG hgs hT hE I2 T st2 f2 (fun ys H=>∀ l,H l=none->Q (.ref l) (upd H l (.lst ys))) hW ?_
  intro D C s' ys H' oc hD fin I' hC ⟨m,hns⟩ hCD hCn hL _ hsz hcl hpn _
  refine ⟨m,hns,fun h' hsb=>⟨.ref D,_,I'.turned (t':=s'.toks) (it:=C) (fun b o hb e=>(hsb.2 b hb).trans e) (by rw [z_m hCD];exact hCn) hL (.inr hsz) hcl hpn,rfl,fin D hD⟩⟩
theorem t_c{elt iter tg:Expr}{g:TG}{py:Pos}{ifs:List Expr}{pos spos:Pos}{wi:TI}{tt:TT}{te:TE}{i:Nat}{y:Str}(xs:List Str)(capt:List Nat)
  (hN:X.N.Nodup) (hiy:X.N[i]? = some y) (hy:Loc X.env.scope y)
  (hx0:∀ e s,¬X.xe e s) (hc:X.calm=true) (hi:PI X tg iter wi) (hG:∀ C s H ex,PG (cxComp X xs capt scope C s H ex) tg g) (hgs:Shp xs.length g)
  (hT:∀ C s H ex,PTs (cxComp X xs capt scope C s H ex) ifs tt) (hE:∀ C s H ex,PE (cxComp X xs capt scope C s H ex) elt te)
  (hk:compOk scope X.env.scope xs (capt.map fun j=>X.N.getD j "")=true) (hcap:∀ j∈capt,j<X.N.length)
  (hsw:swapsWith (.ListComp elt [⟨tg,iter,ifs,0⟩] scope pos) (some (.Name y py)) spos.line X.env=pure true)
  (hs:∀ y,foldedSetIterable iter X.env y=pure y:=by intro _;rfl) (hf:X.fn y=true\/X.env.scope.names.lookup y=some .local:=by first | exact .inl rfl | exact .inr rfl | assumption) :
  PS X (.Assign [.Name y py] (.ListComp elt [⟨tg,iter,ifs,0⟩] scope pos) spos) (tAsg (tCompG xs.length g capt wi tt te) (gName i)):=by
 intro pins s σ H D0 I h
 have ok:=compOk.mk hk
 rw [exec_Assign_Name_used _ _ _ _ hsw]
 refine wpAny_bind (wpAny_standAt (wpAny_bind ?_))
 show wpAny _ X.A (do let _ <-comprehension (.ListComp elt [⟨tg,iter,ifs,0⟩] scope pos) scope X.env _ (newList []) false (eval iter X.env) (some (assign (.Name y py) X.env))) _ _ s
 refine wpAny_bind (wpAny_mono (wpAny_comprehension_free (use:=some (assign (.Name y py) X.env)) (cl:=clOf X.env scope.names []) (Q:=fun _ s'=>SP X pins D0 .next s') rfl hs (w_f fun n k hm hf=>?_) ok.kind ok.names (thn (hi pins s σ H _ I h) fun xv s1 h1=>thn h1 fun itv s2 h2=>?_))
  (fun _ s' hq=>wpAny_pure (wpAny_pure hq)) fun _ _ e=>e)
 ·obtain ⟨c,e⟩:=I.ok.has n (.inl (ok.free n k hm (by simpa using hf)))
  rw [e];rfl
 ·obtain ⟨it,fp,tn,J,H2,e,I2,T,st2,f2,hW⟩:=h2
  subst e
  refine v_i (RR:=fun acc C=>compPost (model X.prog X.w) X.A X.xe (some (assign (.Name y py) X.env)) (fun _ s'=>SP X pins D0 .next s') acc C) hx0 hc ok hcap hG hgs hT hE I2 T st2 f2 (fun ys H=>∀ l,H l=none->gName i (.ref l) σ (upd H l (.lst ys)) D0.nx) hW ?_
  intro D C s' ys H' oc hD fin I' hC ⟨m,hns⟩ hCD hCn hL hst hsz hcl hpn hnc
  show wpAny _ _ (assign (.Name y py) X.env (.ref D)) _ _ s'
  have hCf:C∉X.fs:=fun z=>by
   rcases I'.ok.stk with e | ⟨e,_⟩
   ·exact hst (by rw [e];exact z)
   ·refine hst ?_
    rw [e]
    unfold frs
    rw [List.filterMap_cons]
    split
    ·exact z
    ·exact List.mem_cons_of_mem _ z
  have Ip:Inv X (pins++[(C,oc)]) σ (upd H' D (.lst ys)) s':=I'.pins_of fun p hp=>(List.mem_append.mp hp).elim (fun z=>I'.pin p (List.mem_append_right _ z)) fun z=>by
   have z':p=(C,oc):=by simpa using z
   subst z'
   exact ⟨hC,by rw [z_m hCD];exact hCn,hL,hCf,hnc⟩
  have pg:=z_q (X:=X) (i:=i) (x:=y) (pos:=py) hN hiy hy hf
  refine thn (pg _ s' σ _ (.ref D) (.ref D) (fun σ' H''=>D0.nx σ' H''/\H''=upd H' D (.lst ys)) Ip rfl ⟨fin D hD,rfl⟩) fun _ s'' ⟨σ',H'',I'',q,eH⟩=>?_
  subst eH
  have pC:=I''.pin (C,oc) (by simp)
  obtain ⟨o,es,ep,ho,r⟩:=hns
  rw [hC] at ho
  cases ho
  refine ⟨m,⟨oc,es,ep,pC.1,r⟩,fun h' hsb=>?_⟩
  have Iu:Inv X pins σ' (upd H' D (.lst ys)) s'':=I''.pins_of fun p hp=>I''.pin p (List.mem_append_right _ (List.mem_append_left _ hp))
  exact ⟨σ',_,Iu.turned (t':=s''.toks) (it:=C) (fun b o hb e=>(hsb.2 b hb).trans e) pC.2.1 hL (.inr hsz) hcl hpn,q⟩
theorem s_b{elt iter:Expr}{x:Str}{px:Pos}{ifs:List Expr}{pos:Pos}{wi:TI}{tt:TT}{te:TE}(capt:List Nat)
  (hx0:∀ e s,¬X.xe e s) (hc:X.calm=true) (hi:PI X (.Name x px) iter wi)
  (hT:∀ C s H ex,PTs (cxComp X [x] capt scope C s H ex) ifs tt) (hE:∀ C s H ex,PE (cxComp X [x] capt scope C s H ex) elt te)
  (hk:compOk scope X.env.scope [x] (capt.map fun j=>X.N.getD j "")=true) (hcap:∀ j∈capt,j<X.N.length) (hnd:(x::capt.map fun j=>X.N.getD j "").Nodup)
  (hs:∀ y,foldedSetIterable iter X.env y=pure y:=by intro _;rfl):PE X (.ListComp elt [⟨.Name x px,iter,ifs,0⟩] scope pos) (tComp capt wi tt te):=by
 intro pins s σ H Q I h
 have ok:=compOk.mk hk
 rw [eval_ListComp]
 refine wpAny_comprehension_free (use:=none) (cl:=clOf X.env scope.names []) rfl hs (w_f fun n k hm hf=>?_) ok.kind ok.names (thn (hi pins s σ H _ I h) fun xv s1 h1=>thn h1 fun itv s2 h2=>?_)
 ·obtain ⟨c,e⟩:=I.ok.has n (.inl (ok.free n k hm (by simpa using hf)))
  rw [e];rfl
 ·obtain ⟨it,fp,tn,J,H2,e,I2,T,st2,f2,hW⟩:=h2
  subst e
  refine v_i (RR:=fun acc C=>compPost (model X.prog X.w) X.A X.xe none (EP X pins σ Q) acc C) hx0 hc ok hcap (xs:=[x]) (g:=gName 0) (fun C s H ex=>z_q hnd rfl (.inl (lookup_relabel_local (ok.x x (by simp)))) (.inr (lookup_relabel_local (ok.x x (by simp))))) n_e hT hE I2 T st2 f2 (fun ys H=>∀ l,H l=none->Q (.ref l) (upd H l (.lst ys))) hW.g ?_
  intro D C s' ys H' oc hD fin I' hC ⟨m,hns⟩ hCD hCn hL _ hsz hcl hpn _
  refine ⟨m,hns,fun h' hsb=>⟨.ref D,_,I'.turned (t':=s'.toks) (it:=C) (fun b o hb e=>(hsb.2 b hb).trans e) (by rw [z_m hCD];exact hCn) hL (.inr hsz) hcl hpn,rfl,fin D hD⟩⟩
theorem p_z{elt iter:Expr}{x:Str}{px:Pos}{py:Pos}{ifs:List Expr}{pos spos:Pos}{wi:TI}{tt:TT}{te:TE}{i:Nat}{y:Str}(capt:List Nat)
  (hN:X.N.Nodup) (hiy:X.N[i]? = some y) (hy:Loc X.env.scope y)
  (hx0:∀ e s,¬X.xe e s) (hc:X.calm=true) (hi:PI X (.Name x px) iter wi)
  (hT:∀ C s H ex,PTs (cxComp X [x] capt scope C s H ex) ifs tt) (hE:∀ C s H ex,PE (cxComp X [x] capt scope C s H ex) elt te)
  (hk:compOk scope X.env.scope [x] (capt.map fun j=>X.N.getD j "")=true) (hcap:∀ j∈capt,j<X.N.length) (hnd:(x::capt.map fun j=>X.N.getD j "").Nodup)
  (hsw:swapsWith (.ListComp elt [⟨.Name x px,iter,ifs,0⟩] scope pos) (some (.Name y py)) spos.line X.env=pure true)
  (hs:∀ y,foldedSetIterable iter X.env y=pure y:=by intro _;rfl) (hf:X.fn y=true\/X.env.scope.names.lookup y=some .local:=by first | exact .inl rfl | exact .inr rfl | assumption) :
  PS X (.Assign [.Name y py] (.ListComp elt [⟨.Name x px,iter,ifs,0⟩] scope pos) spos) (tAsg (tComp capt wi tt te) (gName i)):=by
 intro pins s σ H D0 I h
 have ok:=compOk.mk hk
 rw [exec_Assign_Name_used _ _ _ _ hsw]
 refine wpAny_bind (wpAny_standAt (wpAny_bind ?_))
 show wpAny _ X.A (do let _ <-comprehension (.ListComp elt [⟨.Name x px,iter,ifs,0⟩] scope pos) scope X.env _ (newList []) false (eval iter X.env) (some (assign (.Name y py) X.env))) _ _ s
 refine wpAny_bind (wpAny_mono (wpAny_comprehension_free (use:=some (assign (.Name y py) X.env)) (cl:=clOf X.env scope.names []) (Q:=fun _ s'=>SP X pins D0 .next s') rfl hs (w_f fun n k hm hf=>?_) ok.kind ok.names (thn (hi pins s σ H _ I h) fun xv s1 h1=>thn h1 fun itv s2 h2=>?_))
  (fun _ s' hq=>wpAny_pure (wpAny_pure hq)) fun _ _ e=>e)
 ·obtain ⟨c,e⟩:=I.ok.has n (.inl (ok.free n k hm (by simpa using hf)))
  rw [e];rfl
 ·obtain ⟨it,fp,tn,J,H2,e,I2,T,st2,f2,hW⟩:=h2
  subst e
  refine v_i (RR:=fun acc C=>compPost (model X.prog X.w) X.A X.xe (some (assign (.Name y py) X.env)) (fun _ s'=>SP X pins D0 .next s') acc C) hx0 hc ok hcap (xs:=[x]) (g:=gName 0) (fun C s H ex=>z_q hnd rfl (.inl (lookup_relabel_local (ok.x x (by simp)))) (.inr (lookup_relabel_local (ok.x x (by simp))))) n_e hT hE I2 T st2 f2 (fun ys H=>∀ l,H l=none->gName i (.ref l) σ (upd H l (.lst ys)) D0.nx) hW.g ?_
  intro D C s' ys H' oc hD fin I' hC ⟨m,hns⟩ hCD hCn hL hst hsz hcl hpn hnc
  show wpAny _ _ (assign (.Name y py) X.env (.ref D)) _ _ s'
  have hCf:C∉X.fs:=fun z=>by
   rcases I'.ok.stk with e | ⟨e,_⟩
   ·exact hst (by rw [e];exact z)
   ·refine hst ?_
    rw [e]
    unfold frs
    rw [List.filterMap_cons]
    split
    ·exact z
    ·exact List.mem_cons_of_mem _ z
  have Ip:Inv X (pins++[(C,oc)]) σ (upd H' D (.lst ys)) s':=I'.pins_of fun p hp=>(List.mem_append.mp hp).elim (fun z=>I'.pin p (List.mem_append_right _ z)) fun z=>by
   have z':p=(C,oc):=by simpa using z
   subst z'
   exact ⟨hC,by rw [z_m hCD];exact hCn,hL,hCf,hnc⟩
  have pg:=z_q (X:=X) (i:=i) (x:=y) (pos:=py) hN hiy hy hf
  refine thn (pg _ s' σ _ (.ref D) (.ref D) (fun σ' H''=>D0.nx σ' H''/\H''=upd H' D (.lst ys)) Ip rfl ⟨fin D hD,rfl⟩) fun _ s'' ⟨σ',H'',I'',q,eH⟩=>?_
  subst eH
  have pC:=I''.pin (C,oc) (by simp)
  obtain ⟨o,es,ep,ho,r⟩:=hns
  rw [hC] at ho
  cases ho
  refine ⟨m,⟨oc,es,ep,pC.1,r⟩,fun h' hsb=>?_⟩
  have Iu:Inv X pins σ' (upd H' D (.lst ys)) s'':=I''.pins_of fun p hp=>I''.pin p (List.mem_append_right _ (List.mem_append_left _ hp))
  exact ⟨σ',_,Iu.turned (t':=s''.toks) (it:=C) (fun b o hb e=>(hsb.2 b hb).trans e) pC.2.1 hL (.inr hsz) hcl hpn,q⟩
end
open PySem PySem.Spec PyProof.Rows
section
variable {X:Cx}
def bigB:Int:=1645504557321206042154969182557350504982735865633579863348609024
def CDivL(i j:Int):Prop:=0<j/\j<bigB
theorem n_u{n k:Nat}(h:n<2^k)(hk:0<k):n.log2<k:=by
 by_cases h0:n=0
 ·subst h0;simpa using hk
 ·exact (Nat.log2_lt h0).mpr h
theorem y_m:OpR X (binaryOp .FloorDiv) (rI CDivL fun i j=>.int (i/j)):=opI fun i j _ _ _ _ _ hc q=>by
 have h1:(0:Int)<j:=hc.1
 have h2:j<bigB:=hc.2
 refine floordiv_int (by lia) (by rw [Int.fdiv_eq_ediv_of_nonneg i (by lia)];exact q) (.inl (PyProof.noPylong_of_log2 ?_))
 have h3:j.natAbs<2^210:=by
  have e:(2^210:Nat)=1645504557321206042154969182557350504982735865633579863348609024:=by decide
  unfold bigB at h2
  rw [e]
  lia
 exact Nat.lt_of_lt_of_le (n_u h3 (by decide)) (by decide)
theorem w_s{T:String}:CallR X (.builtin "isinstance") (fun xs H Q=>∃ x t b,xs=[x,.ty T]/\TyOf X.K H x t/\PySem.W.kitOne X.K t (.type T)=some b/\Q (.bl b) H):=by
 intro pins s σ H xs us Q I r h
 obtain ⟨x,t,b,rfl,ty,e,q⟩:=h
 obtain ⟨u,w',rfl,rx,rt⟩:=vals2 r
 cases rt
 exact l_n I rx ty e fun tk=>⟨.bl b,H,I.tok _,rfl,q⟩
theorem bools_of{bs:List Bool}:∀ {us:List Value},Vals (bs.map V.bl) us->us=bs.map Value.bool:=by
 induction bs with
 | nil=>intro us r;cases r;rfl
 | cons b bs ih =>
  intro us r
  rw [List.map_cons] at r
  cases r with
  | cons r1 r2 =>
   cases r1
   rw [ih r2,List.map_cons]
theorem call_all:CallR X (.builtin "all") (fun xs H Q=>X.calm=true/\∃ (p:Addr) (bs:List Bool),xs=[.ref p]/\SqL X.K H p (bs.map V.bl)/\Q (.bl (bs.all id)) H):=by
 intro pins s σ H xs us Q I r h
 obtain ⟨hc,p,bs,rfl,hp,q⟩:=h
 obtain ⟨u,rfl,ru⟩:=vals1 r
 cases ru
 obtain ⟨its,rv,pl,hz⟩:=I.list hp
 have e:=bools_of rv
 subst e
 have hl:=pl.isList
 have hlt:p<s.heap.objs.size:=by obtain ⟨_,e,_⟩:=hl;exact Heap.lt_size e
 refine call_all_walk (wpAny_pyIter_list hl ?_)
 refine ⟨s.heap.objs.size,[s.heap.objs.size,p],[s.heap.objs.size],(bs.map Value.bool).toArray.size,_,_,fun i=>(bs[i]?).getD true,rfl,Walks.list (A:=X.A.in1) (I.ok.hd hc) _ p (Nat.ne_of_lt hlt) (bs.map Value.bool).toArray,
  ⟨⟨_,Heap.get?_push_size _ rfl,rfl,rfl⟩,hl.push _⟩,fun i v s' Q' E' hP hQ=>?_,fun h' tk hk=>?_⟩
 ·have hP':(bs.map Value.bool)[i]? = some v:=by simpa using hP
  rw [List.getElem?_map] at hP'
  cases e:bs[i]? with
  | none=>rw [e] at hP';cases hP'
  | some b =>
   rw [e] at hP'
   have ev:Value.bool b=v:=Option.some.inj hP'
   subst ev
   simp only [e,Option.getD_some] at hQ
   exact wpAny_truthy_bool hQ
 ·have e:((List.range (bs.map Value.bool).toArray.size).all fun i=>(bs[i]?).getD true)=bs.all id:=by
   rw [List.size_toArray,List.length_map]
   rw [Bool.eq_iff_iff,List.all_eq_true,List.all_eq_true]
   constructor
   ·intro h b hb
    obtain ⟨i,hi,rfl⟩:=List.mem_iff_getElem.mp hb
    have:=h i (List.mem_range.mpr hi)
    rw [List.getElem?_eq_getElem hi] at this
    exact this
   ·intro h i hi
    have hi':=List.mem_range.mp hi
    rw [List.getElem?_eq_getElem hi']
    exact h _ (List.getElem_mem hi')
  rw [e]
  exact ⟨.bl _,H,I.kept (t':=tk) fun b o eb=>hk b o (fun z=>by rw [List.mem_singleton.mp z] at eb;exact Nat.lt_irrefl _ (Heap.lt_size eb)) (Heap.get?_push_of_some _ eb),rfl,q⟩
end
section
variable {S:V->St} {tt:TT} {te:TE} {H:Hp} {Fin:List V->Hp->Prop}
theorem v_j{lo:Int}{n:Nat}(Pv:Nat->List V->Hp->Prop)(h0:Pv 0 [] H)(hz:∀ i ys H,i<n->Pv i ys H->ys.length<sizeLine)
  (hs:∀ i ys H,i<n->Pv i ys H->tt (S (.int (lo+i))) H fun b H2=>if b=true then te (S (.int (lo+i))) H2 fun y H3=>Pv (i+1) (ys++[y]) H3 else Pv (i+1) ys H2)
  (hd:∀ ys H,Pv n ys H->Fin ys H):CompW (Itr lo n) S tt te H Fin:=by
 refine ⟨fun i m ys H=>m=n-i/\i<=n/\Pv i ys H,⟨n,by simp,Nat.zero_le _,h0⟩,?_⟩
 rintro i m ys H ⟨rfl,hi,p⟩
 by_cases hlt:i<n
 ·refine .inr ⟨hlt,hz i ys H hlt p,Pv (i+1),fun ys' H' p'=>⟨n-(i+1),by lia,rfl,hlt,p'⟩,fun x H' y=>?_⟩
  obtain ⟨e,y⟩:=y
  subst e y
  exact hs i ys _ hlt p
 ·have e:i=n:=by lia
  subst e
  exact .inl ⟨Nat.le_refl _,hd ys H p⟩
theorem q_d{K:PySem.W.Frag}{a:Addr}{xs:List V}(Pv:Nat->List V->Hp->Prop)(h0:Pv 0 [] H)(hl:∀ i ys H,i<=xs.length->Pv i ys H->SqL K H a xs)(hz:∀ i ys H,i<xs.length->Pv i ys H->ys.length<sizeLine)
  (hs:∀ i x ys H,xs[i]? = some x->Pv i ys H->tt (S x) H fun b H2=>if b=true then te (S x) H2 fun y H3=>Pv (i+1) (ys++[y]) H3 else Pv (i+1) ys H2)
  (hd:∀ ys H,Pv xs.length ys H->Fin ys H):CompW (Itl K a) S tt te H Fin:=by
 refine ⟨fun i m ys H=>m=xs.length-i/\i<=xs.length/\Pv i ys H,⟨xs.length,by simp,Nat.zero_le _,h0⟩,?_⟩
 rintro i m ys H ⟨rfl,hi,p⟩
 have q:=hl i ys H hi p
 by_cases hlt:i<xs.length
 ·refine .inr ⟨⟨xs,xs[i],q,by simp [hlt]⟩,hz i ys H hlt p,Pv (i+1),fun ys' H' p'=>⟨xs.length-(i+1),by lia,rfl,hlt,p'⟩,fun x H' y=>?_⟩
  obtain ⟨e,y⟩:=y
  subst e
  exact hs i x ys _ (y xs q) p
 ·have e:i=xs.length:=by lia
  subst e
  exact .inl ⟨⟨xs,q,Nat.le_refl _⟩,hd ys H p⟩
theorem comp_tup{K:PySem.W.Frag}{a:Addr}{xs:List V}(Pv:Nat->List V->Hp->Prop)(h0:Pv 0 [] H)(hl:∀ i ys H,i<=xs.length->Pv i ys H->SqT K H a xs)(hz:∀ i ys H,i<xs.length->Pv i ys H->ys.length<sizeLine)
  (hs:∀ i x ys H,xs[i]? = some x->Pv i ys H->tt (S x) H fun b H2=>if b=true then te (S x) H2 fun y H3=>Pv (i+1) (ys++[y]) H3 else Pv (i+1) ys H2)
  (hd:∀ ys H,Pv xs.length ys H->Fin ys H):CompW (Itt K a) S tt te H Fin:=by
 refine ⟨fun i m ys H=>m=xs.length-i/\i<=xs.length/\Pv i ys H,⟨xs.length,by simp,Nat.zero_le _,h0⟩,?_⟩
 rintro i m ys H ⟨rfl,hi,p⟩
 have q:=hl i ys H hi p
 by_cases hlt:i<xs.length
 ·refine .inr ⟨⟨xs,xs[i],q,by simp [hlt]⟩,hz i ys H hlt p,Pv (i+1),fun ys' H' p'=>⟨xs.length-(i+1),by lia,rfl,hlt,p'⟩,fun x H' y=>?_⟩
  obtain ⟨e,y⟩:=y
  subst e
  exact hs i x ys _ (y xs q) p
 ·have e:i=xs.length:=by lia
  subst e
  exact .inl ⟨⟨xs,q,Nat.le_refl _⟩,hd ys H p⟩
end
structure TopD(w:World)(K:PySem.W.Frag)(a:Addr)(kvs:List (Str×V)):Prop where
 ex:∃ es n,K.lookup a=some ⟨.type "dict",none,.dict es n,#[]⟩/\PySem.W.KeysLit w.params es.toList/\Paired (fun (p:Str×V) (e:DictEntry)=>(∃ t,e.key = .str p.1 t)/\RelV p.2 e.val) kvs es.toList
 lo:(a == sysModules)=false
end L2
namespace L2
open PySem PySem.Spec PyProof.Rows PySem.SeqAt
mutual
def RdD(K:PySem.W.Frag)(H:Hp):PyData->V->Prop
 | .none,v=>v = .non
 | .bool b,v=>v = .bl b
 | .int i,v=>v = .int i
 | .str x,v=>v = .str x
 | .list ds,v=>∃ p xs,v = .ref p/\SqL K H p xs/\RdDs K H ds xs
 | .tuple ds,v=>∃ p xs,v = .ref p/\SqT K H p xs/\RdDs K H ds xs
 | .dict _,_=>False
def RdDs(K:PySem.W.Frag)(H:Hp):List PyData->List V->Prop
 | [],xs=>xs=[]
 | d::ds,xs=>∃ x r,xs=x::r/\RdD K H d x/\RdDs K H ds r
end
section
variable {K:PySem.W.Frag} {H H':Hp}
theorem RdDs.ints(ns:List Int):RdDs K H (ns.map PyData.int) (ns.map V.int):=by
 induction ns with
 | nil=>unfold RdDs;rfl
 | cons n r ih =>
  show RdDs K H (PyData.int n::r.map PyData.int) (V.int n::r.map V.int)
  unfold RdDs
  exact ⟨_,_,rfl,by unfold RdD;rfl,ih⟩
theorem RdDs.cons{d:PyData}{ds:List PyData}{x:V}{xs:List V}(h:RdD K H d x)(r:RdDs K H ds xs):RdDs K H (d::ds) (x::xs):=by
 unfold RdDs
 exact ⟨x,xs,rfl,h,r⟩
theorem RdDs.nil:RdDs K H [] []:=by unfold RdDs;rfl
theorem RdD.int(i:Int):RdD K H (.int i) (.int i):=by unfold RdD;rfl
theorem RdD.lst{ds:List PyData}{p:Addr}{xs:List V}(h:SqL K H p xs)(r:RdDs K H ds xs):RdD K H (.list ds) (.ref p):=by
 unfold RdD
 exact ⟨p,xs,rfl,h,r⟩
theorem RdD.tup{ds:List PyData}{p:Addr}{xs:List V}(h:SqT K H p xs)(r:RdDs K H ds xs):RdD K H (.tuple ds) (.ref p):=by
 unfold RdD
 exact ⟨p,xs,rfl,h,r⟩
end
def Cmp(n:Nat)(d:PyData):Prop:=d.canLay0=true/\d.depth<=n
theorem Cmp.int{n:Nat}(i:Int):Cmp n (.int i):=⟨by simp [PyData.canLay0],by simp [PyData.depth]⟩
theorem cmpAll{n:Nat}:∀ {ds:List PyData},(∀ d∈ds,Cmp n d)->PyData.canLayAll0 ds=true/\PyData.depthAll ds<=n
 | [],_=>⟨by simp [PyData.canLayAll0],by simp [PyData.depthAll]⟩
 | d::ds,h=>by
  obtain ⟨h1,h2⟩:=h d List.mem_cons_self
  obtain ⟨h3,h4⟩:=cmpAll (ds:=ds) fun e he=>h e (List.mem_cons_of_mem _ he)
  refine ⟨by simp [PyData.canLayAll0,h1,h3],?_⟩
  simp only [PyData.depthAll]
  lia
theorem Cmp.list{n:Nat}{ds:List PyData}(h:∀ d∈ds,Cmp n d):Cmp (n+1) (.list ds):=by
 obtain ⟨h1,h2⟩:=cmpAll h
 exact ⟨by simp [PyData.canLay0,h1],by simp only [PyData.depth];lia⟩
theorem Cmp.tuple{n:Nat}{ds:List PyData}(h:∀ d∈ds,Cmp n d):Cmp (n+1) (.tuple ds):=by
 obtain ⟨h1,h2⟩:=cmpAll h
 exact ⟨by simp [PyData.canLay0,h1],by simp only [PyData.depth];lia⟩
theorem Cmp.mono{n m:Nat}{d:PyData}(h:Cmp n d)(l:n<=m):Cmp m d:=⟨h.1,Nat.le_trans h.2 l⟩
theorem Cmp.ints{n:Nat}(ns:List Int):∀ d∈ns.map PyData.int,Cmp n d:=fun d hd=>by
 obtain ⟨i,_,rfl⟩:=List.mem_map.mp hd
 exact .int i
mutual
theorem o_m:∀ {d:PyData},d.canLay0=true->PyData.eqv d d=true
 | .none,_=>by simp [PyData.eqv]
 | .bool _,_=>by simp [PyData.eqv]
 | .int _,_=>by simp [PyData.eqv]
 | .str _,_=>by simp [PyData.eqv]
 | .list ds,h=>by
  rw [PyData.eqv]
  exact v_r (by simpa [PyData.canLay0] using h)
 | .tuple ds,h=>by
  rw [PyData.eqv]
  exact v_r (by simpa [PyData.canLay0] using h)
 | .dict _,h=>by simp [PyData.canLay0] at h
theorem v_r:∀ {ds:List PyData},PyData.canLayAll0 ds=true->PyData.eqvAll ds ds=true
 | [],_=>by simp [PyData.eqvAll]
 | d::ds,h=>by
  have h':(PyData.canLay0 d&&PyData.canLayAll0 ds)=true:=by simpa [PyData.canLayAll0] using h
  obtain ⟨h1,h2⟩:=Bool.and_eq_true_iff.mp h'
  rw [PyData.eqvAll,o_m h1,v_r h2]
  rfl
end
section
variable {X:Cx} {pins:List (Addr×Obj)} {σ:St} {H:Hp} {s:Shared}
mutual
theorem Inv.reads(I:Inv X pins σ H s):∀ {d:PyData} {x:V} {v:Value},RdD X.K H d x->RelV x v->∃ as,Reads s.heap v d as
 | .none,_,_,h,r=>by unfold RdD at h;subst h;cases r;exact ⟨_,.none⟩
 | .bool b,_,_,h,r=>by unfold RdD at h;subst h;cases r;exact ⟨_,.bool b⟩
 | .int i,_,_,h,r=>by unfold RdD at h;subst h;obtain ⟨t,rfl⟩:=r;exact ⟨_,.int i t⟩
 | .str i,_,_,h,r=>by unfold RdD at h;subst h;obtain ⟨t,rfl⟩:=r;exact ⟨_,.str i t⟩
 | .list ds,_,_,h,r=>by
  unfold RdD at h
  obtain ⟨p,xs,rfl,h2,h3⟩:=h
  cases r
  obtain ⟨its,rv,⟨o,n,e1,e2,e3,e4⟩,_⟩:=I.list h2
  obtain ⟨as,ra⟩:=Inv.readsAll I h3 rv
  exact ⟨_,.list e1 e2 e4 (by simpa using ra)⟩
 | .tuple ds,_,_,h,r=>by
  unfold RdD at h
  obtain ⟨p,xs,rfl,h2,h3⟩:=h
  cases r
  obtain ⟨its,rv,⟨o,e1,e2,n,e4⟩,_⟩:=I.tuple h2
  obtain ⟨as,ra⟩:=Inv.readsAll I h3 rv
  exact ⟨_,.tuple e1 e2 e4 (by simpa using ra)⟩
 | .dict _,_,_,h,_=>by unfold RdD at h;exact h.elim
theorem Inv.readsAll(I:Inv X pins σ H s):∀ {ds:List PyData} {xs:List V} {vs:List Value},RdDs X.K H ds xs->Vals xs vs->∃ as,ReadsAll s.heap vs ds as
 | [],_,_,h,r=>by unfold RdDs at h;subst h;cases r;exact ⟨_,.nil⟩
 | d::ds,_,_,h,r=>by
  unfold RdDs at h
  obtain ⟨x,q,rfl,h2,h3⟩:=h
  cases r with
  | cons r1 r2 =>
   obtain ⟨as,ra⟩:=Inv.reads I h2 r1
   obtain ⟨bs,rb⟩:=Inv.readsAll I h3 r2
   exact ⟨_,.cons ra rb⟩
end
def rEqD(K:PySem.W.Frag)(no:Bool):R2:=fun x y H Q=>∃ dx dy,RdD K H dx x/\RdD K H dy y/\Cmp 64 dx/\Cmp 64 dy/\Q (.bl (no ^^ PyData.eqv dx dy)) H
theorem Cmp.shaped{d:PyData}(h:Cmp 64 d):shaped d=true:=by
 unfold SeqAt.shaped
 rw [h.1,decide_eq_true h.2]
 rfl
theorem op_neD(hu:X.A.units+64<cLine):OpR X (compareOp .NotEq) (rEqD X.K true):=by
 intro pins s σ H x y v u Q I rx ry h
 obtain ⟨dx,dy,hx,hy,cx,cy,q⟩:=h
 obtain ⟨as,ra⟩:=I.reads hx rx
 obtain ⟨bs,rb⟩:=I.reads hy ry
 rw [Bool.true_xor] at q
 exact compareNe_shaped ra rb cx.shaped cy.shaped hu ⟨.bl _,H,I,rfl,q⟩
end
theorem rEqD.eq{K:PySem.W.Frag}{x y:V}{H:Hp}{Q:VK}{no:Bool}(d:PyData)(hx:RdD K H d x)(hy:RdD K H d y)(c:Cmp 64 d)(q:Q (.bl (!no)) H):rEqD K no x y H Q :=
 ⟨d,d,hx,hy,c,c,by rw [o_m c.1,Bool.xor_true];exact q⟩
open PySem PySem.Spec PyProof.Rows
section
variable {X:Cx} {K:PySem.W.Frag} (h:X.K=K)
include h
theorem s_v:IxR X (rIxL K):=by subst h;exact x_v
theorem p_q:IxR X (rIxT K):=by subst h;exact x_w
theorem m_z:CallR X (.builtin "len") (fun xs H Q=>∃ x n,xs=[x]/\LenV K x H n/\Q (.int n) H):=by subst h;exact w_e
end
end L2
namespace L2
open PySem PySem.Spec
theorem z_f{H:Hp}{p:Addr}(h:H p=none)(o:HO):Same H (upd H p o):=fun b u q=>by rw [z_m (z_h q h)];exact q
theorem v_f{H H':Hp}{p:Addr}(s:Same H H')(n:H p=none)(o:HO):Same H (upd H' p o):=fun b u q=>by rw [z_m (z_h q n)];exact s b u q
theorem small{n:Nat}(h:n<=100000):n<=sizeLine:=Nat.le_trans h (by decide)
theorem w_r{n:Nat}(h:n<=100000):n<sizeLine:=Nat.lt_of_le_of_lt h (by decide)
theorem zl0:0<=sizeLine:=by decide
theorem zl1:1<=sizeLine:=by decide
theorem zl2:2<=sizeLine:=by decide
theorem zl3:3<=sizeLine:=by decide
theorem zl4:4<=sizeLine:=by decide
theorem zl9:9<=sizeLine:=by decide
theorem t_h{ns:List Int}{i:Int}(h0:0<=i)(h:i<ns.length):∃ v:Int,atI (ns.map V.int) i=some (.int v)/\v∈ns/\v=ns.getD i.toNat 0:=by
 obtain ⟨k,rfl⟩:=Int.eq_ofNat_of_zero_le h0
 have hk:k<ns.length:=by lia
 refine ⟨ns[k],t_g (by rw [List.getElem?_map,List.getElem?_eq_getElem hk]<;>rfl),List.getElem_mem hk,?_⟩
 rw [Int.toNat_natCast,List.getD_eq_getElem?_getD,List.getElem?_eq_getElem hk]
 rfl
def Drawn(rs:List Int):Prop:=∀ r∈rs,0<=r/\r<1000000
theorem Drawn.at{rs:List Int}(d:Drawn rs){i:Int}(h0:0<=i)(h:i<rs.length):∃ v:Int,atI (rs.map V.int) i=some (.int v)/\0<=v/\v<1000000:=by
 obtain ⟨v,h1,h2,_⟩:=t_h h0 h
 exact ⟨v,h1,d v h2⟩
theorem Drawn.snoc{rs:List Int}(d:Drawn rs){v:Int}(h0:0<=v)(h:v<1000000):Drawn (rs++[v]):=fun r hr=>by
 rcases List.mem_append.mp hr with q | q
 ·exact d r q
 ·rw [List.mem_singleton.mp q]
  exact ⟨h0,h⟩
def lsz(n m:Int):Int:=n%m+4*(if decide (V.int (n/m%8)=V.int 5)=true then 1 else 0)
theorem t_t{n m:Int}(h:0<m):0<=lsz n m/\lsz n m<m+4:=by
 have e1:=Int.emod_nonneg n (show m≠0 by lia)
 have e2:=Int.emod_lt_of_pos n h
 unfold lsz
 split<;>lia
def p_c:Sp:=fun vs H Q _=>∃ n m:Int,vs=[.int n,.int m]/\0<=n/\0<m/\m<1000/\Q (.int (lsz n m)) H
structure Wk where
 ins:Nat
 boxes:List (Int×Int)
 gates:List (Int×Int)
 outs:List Int
def Wk.first(W:Wk):Nat:=1+W.ins+W.boxes.length
def Wk.knots(W:Wk):Nat:=W.first+W.gates.length
def GateOk(n:Nat)(gs:List (Int×Int)):Prop:=∀ (k:Nat) (g:Int×Int),gs[k]? = some g->(0<=g.1/\g.1<2*((n:Int)+k))/\0<=g.2/\g.2<2*((n:Int)+k)
structure Wk.Ok(W:Wk):Prop where
 ins:W.ins<=7
 boxes:W.boxes.length<=40
 gates:W.gates.length<=2000
 outs:W.outs.length<=20
 gate:GateOk W.first W.gates
 box:∀ b∈W.boxes,(b.1=0\/b.1=1)/\0<=b.2/\b.2<2*(W.knots:Int)
 out:∀ o∈W.outs,0<=o/\o<2*(W.knots:Int)
def PrsR(H:Hp)(b:Addr)(rs:List Addr)(ps:List (Int×Int)):Prop:=H b=some (.lst (rs.map V.ref))/\Paired (fun r (p:Int×Int)=>H r=some (.tup [.int p.1,.int p.2])) rs ps
theorem z_t{α β:Type}{R S:α->β->Prop}(h:∀ a b,R a b->S a b):∀ {xs:List α} {ys:List β},Paired R xs ys->Paired S xs ys
 | _,_,.nil=>.nil
 | _,_,.cons a b=>.cons (h _ _ a) (z_t h b)
theorem x_u{α β:Type}{R:α->β->Prop}{x:α}{y:β}(h:R x y):∀ {xs:List α} {ys:List β},Paired R xs ys->Paired R (xs++[x]) (ys++[y])
 | _,_,.nil=>.cons h .nil
 | _,_,.cons a b=>.cons a (x_u h b)
theorem pairedApp{α β:Type}{R:α->β->Prop}{us:List α}{vs:List β}(h:Paired R us vs):∀ {xs:List α} {ys:List β},Paired R xs ys->Paired R (xs++us) (ys++vs)
 | _,_,.nil=>h
 | _,_,.cons a b=>.cons a (pairedApp h b)
theorem pairsNew{H:Hp}{t:Addr}{bs:List Addr}{qs:List (Int×Int)}(x y:Int)(hB:Paired (fun r (p:Int×Int)=>H r=some (.tup [.int p.1,.int p.2])) bs qs)(ht:H t=none) :
  Paired (fun r (p:Int×Int)=>upd H t (.tup [.int x,.int y]) r=some (.tup [.int p.1,.int p.2])) (bs++[t]) (qs++[(x,y)]) :=
 x_u (R:=fun r (p:Int×Int)=>upd H t (.tup [.int x,.int y]) r=some (.tup [.int p.1,.int p.2])) z_d (z_t (fun r p q=>by rw [z_m (z_h q ht)];exact q) hB)
theorem PrsR.same{H H':Hp}{b:Addr}{rs:List Addr}{ps:List (Int×Int)}(s:Same H H')(h:PrsR H b rs ps):PrsR H' b rs ps:=⟨s _ _ h.1,z_t (fun r p q=>s _ _ q) h.2⟩
theorem PrsR.length{H:Hp}{b:Addr}{rs:List Addr}{ps:List (Int×Int)}(h:PrsR H b rs ps):rs.length=ps.length:=Paired.length h.2
theorem PrsR.get{H:Hp}{b:Addr}{rs:List Addr}{ps:List (Int×Int)}(h:PrsR H b rs ps){i:Nat}(hi:i<ps.length):∃ r,(rs.map V.ref)[i]? = some (.ref r)/\H r=some (.tup [.int ps[i].1,.int ps[i].2]):=by
 obtain ⟨hb,h⟩:=h
 clear hb
 induction h generalizing i with
 | nil=>exact absurd hi (Nat.not_lt_zero _)
 | cons a r ih =>
  cases i with
  | zero=>exact ⟨_,rfl,a⟩
  | succ k =>
   obtain ⟨q,h1,h2⟩:=ih (i:=k) (by simpa using hi)
   exact ⟨q,by simpa using h1,by simpa using h2⟩
theorem PrsR.push{H:Hp}{b t:Addr}{rs:List Addr}{ps:List (Int×Int)}(h:PrsR H b rs ps)(ht:H t=none)(x y:Int) :
  PrsR (upd (upd H t (.tup [.int x,.int y])) b (.lst (rs.map V.ref++[.ref t]))) b (rs++[t]) (ps++[(x,y)]):=by
 obtain ⟨hb,hp⟩:=h
 have htb:t≠b:=fun e=>by rw [e,hb] at ht;cases ht
 refine ⟨by rw [z_d,List.map_append];rfl,x_u ?_ (z_t (fun r p q=>?_) hp)⟩
 ·rw [z_m htb,z_d]
 ·rw [z_m (fun e=>by rw [e,hb] at q;cases q),z_m (z_h q ht)]
  exact q
theorem PrsR.data{K:PySem.W.Frag}{H:Hp}{rs:List Addr}{ps:List (Int×Int)}(h:Paired (fun r (p:Int×Int)=>H r=some (.tup [.int p.1,.int p.2])) rs ps):RdDs K H (ps.map fun p=>PyData.tuple [.int p.1,.int p.2]) (rs.map V.ref):=by
 induction h with
 | nil=>exact RdDs.nil
 | cons a r ih=>exact RdDs.cons (RdD.tup (SqT.of a) (RdDs.cons (.int _) (RdDs.cons (.int _) .nil))) ih
def dPs(ps:List (Int×Int)):PyData:=.list (ps.map fun p=>PyData.tuple [.int p.1,.int p.2])
theorem l_e(ps:List (Int×Int)):Cmp 2 (dPs ps):=Cmp.list fun d hd=>by
 obtain ⟨p,_,rfl⟩:=List.mem_map.mp hd
 refine Cmp.tuple fun e he=>?_
 simp only [List.mem_cons,List.not_mem_nil,or_false] at he
 rcases he with rfl | rfl<;>exact .int _
theorem PrsR.rd{K:PySem.W.Frag}{H:Hp}{b:Addr}{rs:List Addr}{ps:List (Int×Int)}(h:PrsR H b rs ps):RdD K H (dPs ps) (.ref b):=RdD.lst (SqL.of h.1) (PrsR.data h.2)
def Prs(H:Hp)(b:Addr)(ps:List (Int×Int)):Prop:=∃ rs,PrsR H b rs ps
theorem Prs.same{H H':Hp}{b:Addr}{ps:List (Int×Int)}(s:Same H H')(h:Prs H b ps):Prs H' b ps:=let ⟨rs,q⟩:=h;⟨rs,q.same s⟩
structure IsWkA(H:Hp)(w b g o:Addr)(W:Wk):Prop where
 w:H w=some (.tup [.int W.ins,.ref b,.ref g,.ref o])
 b:Prs H b W.boxes
 g:Prs H g W.gates
 o:H o=some (.lst (W.outs.map V.int))
theorem IsWkA.same{H H':Hp}{w b g o:Addr}{W:Wk}(s:Same H H')(h:IsWkA H w b g o W):IsWkA H' w b g o W:=⟨s _ _ h.w,h.b.same s,h.g.same s,s _ _ h.o⟩
theorem PrsR.ext{H:Hp}{a b:Addr}{rs us:List Addr}{ps qs:List (Int×Int)}(ha:PrsR H a rs ps)(hb:PrsR H b us qs):PrsR (upd H a (.lst (rs.map V.ref++us.map V.ref))) a (rs++us) (ps++qs):=by
 have keep:∀ {r:Addr} {x:Int×Int},H r=some (.tup [.int x.1,.int x.2])->(upd H a (.lst (rs.map V.ref++us.map V.ref))) r=some (.tup [.int x.1,.int x.2]):=fun {r x} h=>by
  rw [z_m (fun e=>by rw [e,ha.1] at h;cases h)]
  exact h
 exact ⟨by rw [z_d,List.map_append],pairedApp (z_t (fun r x h=>keep h) hb.2) (z_t (fun r x h=>keep h) ha.2)⟩
theorem PrsR.other{H:Hp}{a b:Addr}{rs:List Addr}{ps:List (Int×Int)}{xs ys:List V}(h:PrsR H a rs ps)(hb:H b=some (.lst xs))(n:a≠b):PrsR (upd H b (.lst ys)) a rs ps:=by
 refine ⟨by rw [z_m n];exact h.1,z_t (fun r x q=>?_) h.2⟩
 rw [z_m (fun e=>by rw [e,hb] at q;cases q)]
 exact q
theorem PrsR.mk{H:Hp}{a:Addr}{rs:List Addr}{ps:List (Int×Int)}(h:Paired (fun r (p:Int×Int)=>H r=some (.tup [.int p.1,.int p.2])) rs ps)(n:H a=none):PrsR (upd H a (.lst (rs.map V.ref))) a rs ps :=
 ⟨z_d,z_t (fun r x q=>(z_f n _) _ _ q) h⟩
theorem cut_from{xs:List V}{n:Nat}(h:n<=xs.length):cutV xs (some (n:Int)) none=xs.drop n:=by
 unfold cutV
 rw [HT.sIx_nat,HT.sIx_none,Nat.min_eq_left h,List.take_of_length_le (by rw [List.length_drop];lia)]
theorem ixN_nat{n k:Nat}(h:k<n):ixN n (k:Int)=some k:=by
 unfold ixN
 rw [if_pos (by lia),if_pos (by lia),Int.toNat_natCast]
theorem x_f{c:Bool}{A B:Prop}(h:c=false)(q:B):if c=true then A else B:=by rw [h];exact q
theorem v_x{c:Bool}{A B:Prop}(h:c=true)(q:A):if c=true then A else B:=by rw [h];exact q
def dWk(W:Wk):PyData:=.tuple [.int W.ins,dPs W.boxes,dPs W.gates,.list (W.outs.map PyData.int)]
theorem dWk_rd{K:PySem.W.Frag}{H:Hp}{w b g o:Addr}{W:Wk}{rs ts:List Addr}(hw:H w=some (.tup [.int W.ins,.ref b,.ref g,.ref o]))(hb:PrsR H b rs W.boxes)(hg:PrsR H g ts W.gates)(ho:H o=some (.lst (W.outs.map V.int))):RdD K H (dWk W) (.ref w) :=
 RdD.tup (SqT.of hw) (.cons (.int _) (.cons hb.rd (.cons hg.rd (.cons (RdD.lst (SqL.of ho) (.ints _)) .nil))))
theorem IsWkA.rd{K:PySem.W.Frag}{H:Hp}{w b g o:Addr}{W:Wk}(h:IsWkA H w b g o W):RdD K H (dWk W) (.ref w) :=
 let ⟨_,hb⟩:=h.b;let ⟨_,hg⟩:=h.g;dWk_rd h.w hb hg h.o
section
variable {K:PySem.W.Frag} {a:Addr} {S:V->St} {te:TE} {H:Hp} {Fin:List V->Hp->Prop}
theorem v_w{xs:List V}(f:V->V)(hS:SqL K H a xs)(hz:xs.length<=100000)(hs:∀ x∈xs,∀ N:V->Hp->Prop,N (f x) H->te (S x) H N)(hd:Fin (xs.map f) H):CompW (Itl K a) S tYes te H Fin:=by
 refine q_d (xs:=xs) (fun i ys H'=>ys=(xs.take i).map f/\H=H') ⟨rfl,rfl⟩ ?_ ?_ ?_ ?_
 ·rintro i ys H' _ ⟨_,rfl⟩
  exact hS
 ·rintro i ys H' hi ⟨rfl,_⟩
  rw [List.length_map,List.length_take]
  exact w_r (by lia)
 ·rintro i x ys H' hx ⟨rfl,rfl⟩
  obtain ⟨hi,he⟩:=List.getElem?_eq_some_iff.mp hx
  unfold tYes
  dsimp only
  rw [if_pos rfl]
  refine hs x (he▸List.getElem_mem hi) _ ⟨?_,rfl⟩
  rw [List.take_succ_eq_append_getElem hi,List.map_append,he]
  rfl
 ·rintro ys H' ⟨rfl,rfl⟩
  rw [List.take_length]
  exact hd
theorem n_o{c:St}{tt:TT}{rs:List Addr}{ps:List (Int×Int)}(Pv:Nat->List V->Hp->Prop)(h0:Pv 0 [] H)(hl:∀ i ys H',i<=ps.length->Pv i ys H'->PrsR H' a rs ps)(hz:∀ i ys H',i<ps.length->Pv i ys H'->ys.length<sizeLine)
  (hs:∀ i ys H' (hi:i<ps.length),Pv i ys H'->tt (some (.int ps[i].1)::some (.int ps[i].2)::c) H' fun b H2=>if b=true then te (some (.int ps[i].1)::some (.int ps[i].2)::c) H2 fun y H3=>Pv (i+1) (ys++[y]) H3 else Pv (i+1) ys H2)
  (hd:∀ ys H',Pv ps.length ys H'->Fin ys H'):CompG (Itl K a) 2 c (gTup K 2 (gCons (gName 0) (gCons (gName 1) gNil))) tt te H Fin:=by
 refine ⟨fun i m ys H=>m=ps.length-i/\i<=ps.length/\Pv i ys H,⟨ps.length,by simp,Nat.zero_le _,h0⟩,?_⟩
 rintro i m ys H' ⟨rfl,hi,p⟩
 have q:=hl i ys H' hi p
 have hlen:(rs.map V.ref).length=ps.length:=by rw [List.length_map,q.length]
 by_cases hlt:i<ps.length
 ·refine .inr ⟨⟨_,(rs.map V.ref)[i]'(by lia),SqL.of q.1,List.getElem?_eq_getElem _⟩,hz i ys H' hlt p,Pv (i+1),fun ys' H' p'=>⟨ps.length-(i+1),by lia,rfl,hlt,p'⟩,fun x H2 y os hos=>?_⟩
  obtain ⟨e,y⟩:=y
  subst e
  obtain ⟨r,h1,h2⟩:=q.get hlt
  have hx:=y _ (SqL.of q.1)
  rw [h1] at hx
  cases hx
  match os,hos with
  | [u,v],_=>exact ⟨r,_,rfl,SqT.of h2,rfl,_,_,rfl,_,_,rfl,rfl,hs i ys _ hlt p⟩
 ·have e:i=ps.length:=by lia
  subst e
  exact .inl ⟨⟨_,SqL.of q.1,Nat.le_of_eq hlen⟩,hd ys H' p⟩
end
open PySem PySem.Spec
theorem y_f{K:PySem.W.Frag}{a:Addr}{c:St}{te:TE}{H:Hp}{Fin:List V->Hp->Prop}{rs:List Addr}{ps:List (Int×Int)}(f:Int×Int->Int×Int)(hP:PrsR H a rs ps)(hz:ps.length<=100000)
  (hs:∀ p∈ps,∀ H1,Same H H1->∀ N:V->Hp->Prop,(∀ t,H1 t=none->N (.ref t) (upd H1 t (.tup [.int (f p).1,.int (f p).2])))->te (some (.int p.1)::some (.int p.2)::c) H1 N)
  (hd:∀ (bs:List Addr) H',Same H H'->Paired (fun r (p:Int×Int)=>H' r=some (.tup [.int p.1,.int p.2])) bs (ps.map f)->Fin (bs.map V.ref) H'):CompG (Itl K a) 2 c (gTup K 2 (gCons (gName 0) (gCons (gName 1) gNil))) tYes te H Fin:=by
 refine n_o (rs:=rs) (ps:=ps) (fun i ys H'=>∃ bs:List Addr,ys=bs.map V.ref/\Same H H'/\Paired (fun r (p:Int×Int)=>H' r=some (.tup [.int p.1,.int p.2])) bs ((ps.take i).map f)) ⟨[],rfl,Same.refl _,.nil⟩ ?_ ?_ ?_ ?_
 ·rintro i ys H' _ ⟨bs,_,s,_⟩
  exact hP.same s
 ·rintro i ys H' hi ⟨bs,rfl,_,hb⟩
  rw [List.length_map,Paired.length hb,List.length_map,List.length_take]
  exact w_r (by lia)
 ·rintro i ys H' hi ⟨bs,rfl,s,hb⟩
  unfold tYes
  dsimp only
  rw [if_pos rfl]
  refine hs _ (List.getElem_mem hi) H' s _ fun t ht=>⟨bs++[t],by rw [List.map_append];rfl,s.trans (z_f ht _),?_⟩
  rw [List.take_succ_eq_append_getElem hi,List.map_append]
  exact pairsNew _ _ hb ht
 ·rintro ys H' ⟨bs,rfl,s,hb⟩
  rw [List.take_length] at hb
  exact hd bs H' s hb
def seF(W:Wk)(e:Int):Int:=if e/2-W.ins-1<0 then e else if e/2-W.ins-1<(W.boxes.length:Int) then ((W.boxes.getD (e/2-W.ins-1).toNat (0,0)).1+e)%2 else e-2*W.boxes.length
theorem xor_bit{f e:Int}(h:f=0\/f=1):Builtin.bitXor f (e%2)=(f+e)%2:=by
 have:e%2=0\/e%2=1:=by lia
 rcases h with rfl | rfl<;>rcases this with q | q<;>rw [q]
 ·rw [show Builtin.bitXor 0 0=0 by decide];lia
 ·rw [show Builtin.bitXor 0 1=1 by decide];lia
 ·rw [show Builtin.bitXor 1 0=1 by decide];lia
 ·rw [show Builtin.bitXor 1 1=0 by decide];lia
theorem q_y{W:Wk}{e:Int}{k:Nat}(h0:0<=e)(h:e<2*((W.first:Int)+k)):0<=seF W e/\seF W e<2*(((1+W.ins:Nat):Int)+k):=by
 have hf:W.first=1+W.ins+W.boxes.length:=rfl
 unfold seF
 split
 ·lia
 ·split
  ·lia
  ·lia
def startGates(W:Wk):List (Int×Int):=W.gates.map fun g=>(seF W g.1,seF W g.2)
theorem startOk{W:Wk}(ok:W.Ok):GateOk (1+W.ins) (startGates W):=fun k g hk=>by
 unfold startGates at hk
 rw [List.getElem?_map] at hk
 obtain ⟨x,hx,rfl⟩:=Option.map_eq_some_iff.mp hk
 obtain ⟨⟨a0,a1⟩,b0,b1⟩:=ok.gate k x hx
 exact ⟨q_y a0 a1,q_y b0 b1⟩
def xr(x e:Int):Int:=if e%2=0 then x else x+1-2*(x%2)
theorem xor_xr(x e:Int):Builtin.bitXor x (e%2)=xr x e:=by
 unfold xr
 have:e%2=0\/e%2=1:=by lia
 rcases this with q | q<;>rw [q]
 ·rw [PyProof.Rows.bitXor_zero,if_pos rfl]
 ·rw [PyProof.Rows.bitXor_and,PyProof.Rows.bitAnd_m1,if_neg (by decide)]
def neF(W:Wk)(e:Int):Int:=if e/2<=(W.ins:Int)+W.boxes.length then e else e+2*W.ins
def teF(W:Wk)(e:Int):Int:=if e<2 then e else if e/2-W.ins-1<0 then e+2*((W.ins:Int)+W.boxes.length) else if e/2-W.ins-1<(W.boxes.length:Int) then xr (neF W (W.boxes.getD (e/2-W.ins-1).toNat (0,0)).2) e else e+2*((W.ins:Int)+W.gates.length)
def y_b(W:Wk):List (Int×Int):=W.gates.map fun g=>(neF W g.1,neF W g.2)
def y_a(W:Wk):List (Int×Int):=W.gates.map fun g=>(teF W g.1,teF W g.2)
theorem t_v{W:Wk}{e:Int}{k:Nat}(h0:0<=e)(h:e<2*((W.first:Int)+k)):0<=neF W e/\neF W e<2*(((1+2*W.ins+W.boxes.length:Nat):Int)+k):=by
 have hf:W.first=1+W.ins+W.boxes.length:=rfl
 unfold neF
 split<;>lia
theorem box_get{W:Wk}(ok:W.Ok){k:Nat}(h:k<W.boxes.length):0<=(W.boxes.getD k (0,0)).2/\(W.boxes.getD k (0,0)).2<2*(W.knots:Int):=by
 rw [List.getD_eq_getElem?_getD,List.getElem?_eq_getElem h]
 exact (ok.box _ (List.getElem_mem h)).2
theorem p_j{W:Wk}(ok:W.Ok){e:Int}{k:Nat}(h0:0<=e)(h:e<2*((W.first:Int)+k)):0<=teF W e/\teF W e<2*(((1+2*W.ins+W.boxes.length+W.gates.length:Nat):Int)+k):=by
 have hf:W.first=1+W.ins+W.boxes.length:=rfl
 have hk:W.knots=1+W.ins+W.boxes.length+W.gates.length:=rfl
 unfold teF
 split
 ·lia
 ·split
  ·lia
  ·split
   ·rename_i h1 h2 h3
    obtain ⟨b0,b1⟩:=box_get ok (k:=(e/2-W.ins-1).toNat) (by lia)
    obtain ⟨n0,n1⟩:=t_v (W:=W) (k:=W.gates.length) b0 (by rw [hk] at b1;lia)
    unfold xr
    split<;>lia
   ·lia
theorem nextOk{W:Wk}(ok:W.Ok):GateOk (1+(2*W.ins+W.boxes.length)) (y_b W++y_a W):=fun k g hk=>by
 have hl:(y_b W).length=W.gates.length:=by unfold y_b;rw [List.length_map]
 by_cases hlt:k<W.gates.length
 ·rw [List.getElem?_append_left (by lia)] at hk
  unfold y_b at hk
  rw [List.getElem?_map] at hk
  obtain ⟨x,hx,rfl⟩:=Option.map_eq_some_iff.mp hk
  obtain ⟨⟨a0,a1⟩,b0,b1⟩:=ok.gate k x hx
  have q1:=t_v a0 a1
  have q2:=t_v b0 b1
  push_cast at q1 q2 ⊢
  exact ⟨⟨q1.1,by lia⟩,q2.1,by lia⟩
 ·rw [List.getElem?_append_right (by lia),hl] at hk
  unfold y_a at hk
  rw [List.getElem?_map] at hk
  obtain ⟨x,hx,rfl⟩:=Option.map_eq_some_iff.mp hk
  obtain ⟨⟨a0,a1⟩,b0,b1⟩:=ok.gate (k-W.gates.length) x hx
  have q1:=p_j ok a0 a1
  have q2:=p_j ok b0 b1
  have hs:((k-W.gates.length:Nat):Int)=(k:Int)-W.gates.length:=by lia
  push_cast at q1 q2 ⊢
  rw [hs] at q1 q2
  exact ⟨⟨q1.1,by lia⟩,q2.1,by lia⟩
structure IsNet(H:Hp)(p g:Addr)(rs:List Addr)(n:Int)(ps:List (Int×Int)):Prop where
 p:H p=some (.tup [.int n,.ref g])
 g:PrsR H g rs ps
def s_s:Sp:=fun vs H Q _=>∃ (w b g o:Addr) (W:Wk),vs=[.ref w]/\IsWkA H w b g o W/\W.Ok/\∀ p g' rs H',H p=none->H g'=none->p≠g'->Same H H'->IsNet H' p g' rs ((W.ins+W.boxes.length:Nat):Int) W.gates->Q (.ref p) H'
def u_s:Sp:=fun vs H Q _=>∃ (w b g o:Addr) (W:Wk),vs=[.ref w]/\IsWkA H w b g o W/\W.Ok/\∀ p g' rs H',H p=none->H g'=none->p≠g'->Same H H'->IsNet H' p g' rs W.ins (startGates W)->Q (.ref p) H'
def v_h:Sp:=fun vs H Q _=>∃ (w b g o:Addr) (W:Wk) (e:Int),vs=[.ref w,.int e]/\IsWkA H w b g o W/\W.Ok/\0<=e/\Q (.int (seF W e)) H
def s_k:Sp:=fun vs H Q _=>∃ (w b g o:Addr) (W:Wk),vs=[.ref w]/\IsWkA H w b g o W/\W.Ok/\∀ p g' rs H',H p=none->H g'=none->p≠g'->Same H H'->IsNet H' p g' rs ((2*W.ins+W.boxes.length:Nat):Int) (y_b W++y_a W)->Q (.ref p) H'
def v_n:Sp:=fun vs H Q _=>∃ (w b g o:Addr) (W:Wk) (e:Int),vs=[.ref w,.int e]/\IsWkA H w b g o W/\W.Ok/\0<=e/\Q (.int (neF W e)) H
def v_u:Sp:=fun vs H Q _=>∃ (w b g o:Addr) (W:Wk) (e:Int),vs=[.ref w,.int e]/\IsWkA H w b g o W/\W.Ok/\0<=e/\Q (.int (teF W e)) H
open PySem PySem.Spec PyProof.Rows
theorem x_g{α β:Type}{R:α->β->Prop}:∀ {xs:List α} {ys:List β} {i:Nat} {x:α},Paired R xs ys->xs[i]? = some x->∃ y,ys[i]? = some y/\R x y
 | _,_,i,x,.nil,h=>by simp at h
 | _,_,0,x,.cons a b,h=>by
  simp at h
  subst h
  exact ⟨_,rfl,a⟩
 | _,_,i+1,x,.cons a b,h=>by
  rw [List.getElem?_cons_succ] at h ⊢
  exact x_g b h
theorem u_m{α:Type}{xs:List α}{i:Nat}{x:α}(h:xs[i]? = some x):xs.take (i+1)=xs.take i++[x]:=by
 obtain ⟨hi,he⟩:=List.getElem?_eq_some_iff.mp h
 rw [List.take_succ_eq_append_getElem hi,he]
open PySem
theorem xor_sum(a b:Nat):(a^^^b)+2*(a&&&b)=a+b:=by
 have o:((a^^^b)|||(a&&&b))=a|||b:=Nat.eq_of_testBit_eq fun i=>by
  rw [Nat.testBit_or,Nat.testBit_or,Nat.testBit_xor,Nat.testBit_and]
  generalize a.testBit i=u;generalize b.testBit i=v
  revert u v;decide
 have n:((a^^^b)&&&(a&&&b))=0:=Nat.eq_of_testBit_eq fun i=>by
  rw [Nat.testBit_and,Nat.testBit_xor,Nat.testBit_and,Nat.zero_testBit]
  generalize a.testBit i=u;generalize b.testBit i=v
  revert u v;decide
 have x:=PyProof.Rows.nat_or_add_and (a^^^b) (a&&&b)
 rw [o,n] at x
 have y:=PyProof.Rows.nat_or_add_and a b
 clear o n
 lia
theorem r_r(a b:Nat):Builtin.bitXor (a:Int) (b:Int)=((a^^^b:Nat):Int):=by
 rw [PyProof.Rows.bitXor_and,PyProof.Rows.bitAnd_pp (by lia) (by lia),Int.toNat_natCast,Int.toNat_natCast]
 have h:=xor_sum a b
 lia
theorem w_j(x:Nat):(x^^^1)/2=x/2:=by
 rw [Nat.xor_div_two]
 exact Nat.xor_zero _
theorem t_k(x:Nat):(x^^^1)%2=1-x%2:=by
 have h:(x^^^1)%2=1↔¬(x%2=1↔1%2=1):=Nat.xor_mod_two_eq_one
 have hx:x%2=0\/x%2=1:=by lia
 have hy:(x^^^1)%2=0\/(x^^^1)%2=1:=by lia
 rcases hx with hx | hx<;>rcases hy with hy | hy<;>simp_all
theorem cx_cx(x:Nat):x^^^1^^^1=x:=by rw [Nat.xor_assoc,Nat.xor_self,Nat.xor_zero]
theorem cx_ne(x:Nat):x^^^1≠x:=by have:=t_k x;intro e;rw [e] at this;lia
theorem p_n{k:Nat}:(2*k)^^^1=2*k+1:=by have:=w_j (2*k);have:=t_k (2*k);lia
theorem cx_odd{k:Nat}:(2*k+1)^^^1=2*k:=by have:=w_j (2*k+1);have:=t_k (2*k+1);lia
theorem k_x(x p:Nat)(h:p<2):(x^^^p)/2=x/2:=by
 have:p=0\/p=1:=by lia
 rcases this with rfl | rfl
 ·rw [Nat.xor_zero]
 ·exact w_j x
theorem o_q{L:List Nat}{k j v:Nat}(h:k<L.length):(L.set k v).getD j 0=if j=k then v else L.getD j 0:=by
 rw [List.getD_eq_getElem?_getD,List.getElem?_set,List.getD_eq_getElem?_getD]
 by_cases e:k=j
 ·subst e;rw [if_pos rfl,if_pos h,if_pos rfl];rfl
 ·rw [if_neg e,if_neg (fun h=>e h.symm)]
structure Uf(n:Nat)(L:List Nat)(R:Nat->Nat):Prop where
 len:L.length=n
 ok:∀ k,k<n->(L.getD k 0=2*k/\R (2*k)=2*k/\R (2*k+1)=2*k+1)\/(L.getD k 0/2<k/\R (2*k)=R (L.getD k 0)/\R (2*k+1)=R (L.getD k 0^^^1))
section
variable {n:Nat} {L:List Nat} {R:Nat->Nat}
theorem Uf.step(u:Uf n L R){e:Nat}(h:e/2<n):(L.getD (e/2) 0=2*(e/2)/\R e=e)\/(L.getD (e/2) 0/2<e/2/\R e=R (L.getD (e/2) 0^^^(e%2))):=by
 have he:e%2=0\/e%2=1:=by lia
 rcases u.ok (e/2) h with ⟨h1,h2,h3⟩ | ⟨h1,h2,h3⟩
 ·refine .inl ⟨h1,?_⟩
  rcases he with he | he
  ·rw [show 2*(e/2)=e by lia] at h2;exact h2
  ·rw [show 2*(e/2)+1=e by lia] at h3;exact h3
 ·refine .inr ⟨h1,?_⟩
  rcases he with he | he
  ·rw [show 2*(e/2)=e by lia] at h2;rw [he,Nat.xor_zero];exact h2
  ·rw [show 2*(e/2)+1=e by lia] at h3;rw [he];exact h3
theorem Uf.all(u:Uf n L R):∀ k,k<n->∀ e,e/2=k->R e/2<=k/\L.getD (R e/2) 0=2*(R e/2)/\R (e^^^1)=R e^^^1:=by
 intro k
 induction k using Nat.strongRecOn with
 | _ k ih =>
  intro hk e he
  have h1:=u.step (e:=e) (by lia)
  have h2:=u.step (e:=e^^^1) (by rw [w_j];lia)
  rw [w_j,t_k] at h2
  rcases h1 with ⟨a1,a2⟩ | ⟨a1,a2⟩
  ·rcases h2 with ⟨b1,b2⟩ | ⟨b1,b2⟩
   ·rw [a2,b2]
    exact ⟨by lia,a1,rfl⟩
   ·lia
  ·rcases h2 with ⟨b1,b2⟩ | ⟨b1,b2⟩
   ·lia
   ·generalize hv:L.getD (e/2) 0=v at a1 a2 b1 b2
    have hp:e%2<2:=by lia
    have:=ih (v/2) (by lia) (by lia) (v^^^(e%2)) (k_x v _ hp)
    rw [a2,b2]
    refine ⟨by lia,this.2.1,?_⟩
    rw [<-this.2.2]
    congr 1
    have:e%2=0\/e%2=1:=by lia
    rcases this with h | h<;>rw [h]
    ·rw [Nat.xor_zero]
    ·rw [cx_cx,Nat.xor_zero]
theorem Uf.le(u:Uf n L R){e:Nat}(h:e/2<n):R e/2<=e/2:=(u.all _ h e rfl).1
theorem Uf.cx(u:Uf n L R){e:Nat}(h:e/2<n):R (e^^^1)=R e^^^1:=(u.all _ h e rfl).2.2
theorem Uf.rr(u:Uf n L R){e:Nat}(h:e/2<n):R (R e)=R e:=by
 have h1:=u.all _ h e rfl
 rcases u.step (e:=R e) (by lia) with h2 | h2
 ·exact h2.2
 ·lia
theorem Uf.lt(u:Uf n L R){e:Nat}(h:e/2<n)(nr:¬L.getD (e/2) 0/2=e/2):R e/2<e/2/\L.getD (e/2) 0/2<e/2/\R e=R (L.getD (e/2) 0^^^(e%2)):=by
 rcases u.step h with h1 | h1
 ·lia
 ·have hp:e%2<2:=by lia
  have h3:=k_x (L.getD (e/2) 0) _ hp
  have h2:=u.le (e:=L.getD (e/2) 0^^^(e%2)) (by lia)
  rw [<-h1.2] at h2
  exact ⟨by lia,h1⟩
theorem Uf.here(u:Uf n L R){e:Nat}(h:e/2<n)(r:L.getD (e/2) 0/2=e/2):R e=e:=by
 rcases u.step h with h1 | h1
 ·exact h1.2
 ·lia
theorem Uf.press(u:Uf n L R){w:Nat}(hw:w/2<n)(nr:R w/2<w/2):Uf n (L.set (w/2) (R w^^^(w%2))) R:=by
 refine ⟨by rw [List.length_set];exact u.len,fun k hk=>?_⟩
 rw [o_q (by rw [u.len];exact hw)]
 by_cases e:k=w/2
 ·rw [if_pos e]
  have h1:=u.rr hw
  have h2:=u.cx hw
  have h3:=u.cx (e:=R w) (by lia)
  rw [h1] at h3
  have hp:w%2=0\/w%2=1:=by lia
  rcases hp with hp | hp
  ·have e2:2*k=w:=by lia
   rw [hp,Nat.xor_zero,e2,show w+1=w^^^1 by rw [<-e2,p_n],h1,h2,h3]
   exact .inr ⟨by lia,rfl,rfl⟩
  ·have e2:2*k+1=w:=by lia
   rw [hp,cx_cx,e2,show 2*k=w^^^1 by rw [<-e2,cx_odd],h1,h2,h3,w_j]
   exact .inr ⟨by lia,rfl,rfl⟩
 ·rw [if_neg e]
  exact u.ok k hk
def jn(R:Nat->Nat)(lo hi:Nat)(e:Nat):Nat:=if R e=hi then lo else if R e=hi^^^1 then lo^^^1 else R e
theorem Uf.join(u:Uf n L R){lo hi:Nat}(h1:R lo=lo)(h2:R hi=hi)(hl:lo/2<hi/2)(hn:hi/2<n):Uf n (L.set (hi/2) (lo^^^(hi%2))) (jn R lo hi):=by
 have hd:=w_j hi
 have hld:=w_j lo
 have h3:=u.cx (e:=lo) (by lia)
 have h4:=u.cx (e:=hi) (by lia)
 rw [h1] at h3
 rw [h2] at h4
 have n1:lo≠hi:=by lia
 have n2:lo≠hi^^^1:=by lia
 have n3:lo^^^1≠hi:=by lia
 have n4:lo^^^1≠hi^^^1:=by lia
 have q1:jn R lo hi lo=lo:=by unfold jn;rw [h1,if_neg n1,if_neg n2]
 have q2:jn R lo hi (lo^^^1)=lo^^^1:=by unfold jn;rw [h3,if_neg n3,if_neg n4]
 have q3:jn R lo hi hi=lo:=by unfold jn;rw [if_pos h2]
 have q4:jn R lo hi (hi^^^1)=lo^^^1:=by unfold jn;rw [h4,if_neg (cx_ne hi),if_pos rfl]
 refine ⟨by rw [List.length_set];exact u.len,fun k hk=>?_⟩
 rw [o_q (by rw [u.len];exact hn)]
 by_cases e:k=hi/2
 ·rw [if_pos e]
  have hp:hi%2=0\/hi%2=1:=by lia
  rcases hp with hp | hp
  ·have e2:2*k=hi:=by lia
   rw [hp,Nat.xor_zero,e2,show hi+1=hi^^^1 by rw [<-e2,p_n],q1,q2,q3,q4]
   exact .inr ⟨by lia,rfl,rfl⟩
  ·have e2:2*k+1=hi:=by lia
   rw [hp,cx_cx,e2,show 2*k=hi^^^1 by rw [<-e2,cx_odd],q1,q2,q3,q4,hld]
   exact .inr ⟨by lia,rfl,rfl⟩
 ·rw [if_neg e]
  have cong:∀ a b,R a=R b->jn R lo hi a=jn R lo hi b:=fun a b h=>by unfold jn;rw [h]
  rcases u.ok k hk with ⟨a1,a2,a3⟩ | ⟨a1,a2,a3⟩
  ·refine .inl ⟨a1,?_,?_⟩
   ·unfold jn;rw [a2,if_neg (by lia),if_neg (by lia)]
   ·unfold jn;rw [a3,if_neg (by lia),if_neg (by lia)]
  ·exact .inr ⟨a1,cong _ _ a2,cong _ _ a3⟩
theorem Uf.init(n:Nat):Uf n ((List.range n).map fun k=>2*k) id:=by
 refine ⟨by rw [List.length_map,List.length_range],fun k hk=>.inl ⟨?_,rfl,rfl⟩⟩
 rw [List.getD_eq_getElem?_getD,List.getElem?_map,List.getElem?_range hk]
 rfl
end
theorem q_g{v:V}:([(("lesser" : Str),v)]:List (Str×V)).lookup ("lesser" : Str)=some v:=by simp [List.lookup]
theorem t_r{v:V}{m:Str}(h:(m == ("lesser" : Str))=false):([(("lesser" : Str),v)]:List (Str×V)).lookup m=none:=by simp [List.lookup,h]
def w_z(L:List Nat):List V:=L.map fun k=>V.int (k:Nat)
theorem t_u(L:List Nat):(w_z L).length=L.length:=List.length_map _
def ClsAt(C:Addr)(H:Hp)(o l:Addr)(n:Nat)(R:Nat->Nat):Prop:=(∃ dx,H o=some (.ins C dx [("lesser",.ref l)]))/\∃ L:List Nat,H l=some (.lst (w_z L))/\Uf n L R/\n<=4200
def Ch(l:Addr)(H H':Hp):Prop:=∀ b o,b≠l->H b=some o->H' b=some o
theorem Ch.refl{l:Addr}{H:Hp}:Ch l H H:=fun _ _ _ e=>e
theorem Ch.trans{l:Addr}{H H1 H2:Hp}(a:Ch l H H1)(b:Ch l H1 H2):Ch l H H2:=fun c o n e=>b c o n (a c o n e)
theorem Same.ch{l:Addr}{H H':Hp}(s:Same H H'):Ch l H H':=fun c o _ e=>s c o e
theorem Ch.put{l:Addr}{H:Hp}(o:HO):Ch l H (upd H l o):=fun b o' n e=>by rw [z_m n];exact e
theorem Ch.same{l:Addr}{H H1 H2:Hp}(n:H l=none)(a:Same H H1)(b:Ch l H1 H2):Same H H2:=fun c o e=>b c o (z_h e n) (a c o e)
theorem ClsAt.same{C o l:Addr}{H H':Hp}{n:Nat}{R:Nat->Nat}(c:ClsAt C H o l n R)(s:Same H H'):ClsAt C H' o l n R:=by
 obtain ⟨⟨dx,h1⟩,L,h2,u,h3⟩:=c
 exact ⟨⟨dx,s _ _ h1⟩,L,s _ _ h2,u,h3⟩
theorem ClsAt.ne{C o l:Addr}{H:Hp}{n:Nat}{R:Nat->Nat}(c:ClsAt C H o l n R):o≠l:=by
 obtain ⟨⟨dx,h1⟩,L,h2,u,h3⟩:=c
 intro e
 rw [e,h2] at h1
 cases h1
theorem at_nats{L:List Nat}{c:Nat}(h:c/2<L.length):atI (w_z L) ((c:Int)/2)=some (.int ((L.getD (c/2) 0:Nat):Int)):=by
 rw [show (c:Int)/2=((c/2:Nat):Int) by lia]
 refine t_g ?_
 unfold w_z
 rw [List.getElem?_map,List.getD_eq_getElem?_getD,List.getElem?_eq_getElem h]
 rfl
theorem q_h(L:List Nat)(k v:Nat):(w_z L).set k (.int (v:Nat))=w_z (L.set k v):=by
 unfold w_z
 rw [List.map_set]
def p_a(C:Addr):Sp:=fun vs H Q _=>∃ (o dx:Addr) (n:Nat),vs=[.ref o,.int (n:Int)]/\H o=some (.ins C dx [])/\n<=4200/\∀ l H',H l=none->Ch o H H'->ClsAt C H' o l n id->Q .non H'
def u_p(C:Addr):Sp:=fun vs H Q _=>∃ (o l:Addr) (n:Nat) (R:Nat->Nat) (e:Nat),vs=[.ref o,.int (e:Int)]/\ClsAt C H o l n R/\e/2<n/\∀ H',Ch l H H'->ClsAt C H' o l n R->Q (.int (R e:Nat)) H'
def v_m(C:Addr):Sp:=fun vs H Q _=>∃ (o l:Addr) (n:Nat) (R:Nat->Nat) (a b:Nat),vs=[.ref o,.int (a:Int),.int (b:Int)]/\ClsAt C H o l n R/\a/2<n/\b/2<n/\∀ H',Ch l H H'->ClsAt C H' o l n R->Q (.bl (decide (R a=R b))) H'
def u_l(C : Addr) : Sp := fun vs H Q _ => ∃ (o l : Addr) (n : Nat) (R : Nat -> Nat) (a b : Nat), vs = [.ref o, .int (a : Int), .int (b : Int)] /\ ClsAt C H o l n R /\ a / 2 < n /\ b / 2 < n /\
  ((R a = R b /\ ∀ H', Ch l H H' -> ClsAt C H' o l n R -> Q (.bl true) H') \/ (R a = R b ^^^ 1 /\ ∀ H', Ch l H H' -> ClsAt C H' o l n R -> Q (.bl false) H') \/
   (R a ≠ R b /\ R a ≠ R b ^^^ 1 /\ ∀ H', Ch l H H' -> ClsAt C H' o l n (jn R (min (R a) (R b)) (max (R a) (R b))) -> Q (.bl true) H'))
open PySem
theorem o_t{L:List Nat}{w:Nat}(h:w/2<L.length):ixN (w_z L).length ((w:Int)/2)=some (w/2):=by
 rw [t_u,show (w:Int)/2=((w/2:Nat):Int) by lia]
 exact ixN_nat h
theorem l_v{H H1:Hp}{o dx C:Addr}(ho:H o=none)(hdx:H dx=none)(ch:Ch o (upd (upd H dx (.own o)) o (.ins C dx [])) H1):Same H H1:=fun b w e=>by
 have n1:b≠o:=z_h e ho
 have n2:b≠dx:=z_h e hdx
 refine ch b w n1 ?_
 rw [z_m n1,z_m n2]
 exact e
theorem l_u{H:Hp}{o dx l:Addr}{a b:HO}(h:(upd (upd H dx a) o b) l=none):H l=none:=by
 by_cases e1:l=o
 ·rw [e1,z_d] at h;cases h
 ·by_cases e2:l=dx
  ·rw [z_m e1,e2,z_d] at h;cases h
  ·rw [z_m e1,z_m e2] at h;exact h
open PySem PySem.Spec PyProof.Rows
def Itrs(lo c:Int)(n:Nat):It:=⟨fun i _=>i<n,fun i H x H'=>H'=H/\x = .int (lo+i*c),fun i _=>n<=i⟩
theorem o_f{P:Program}{w:World}{K:PySem.W.Frag}{tg:Expr}(it:Addr)(lo c:Int)(n:Nat):Turn P w K tg (Itrs lo c n) [it] it (fun i h=>IsRangeIter h it (lo+(i:Nat)*c) ((n:Int)-(i:Nat)) c) where
 mem:=by simp
 obj:=fun i h st b hb=>by
  have e:b=it:=by simpa using hb
  subst e
  exact ⟨_,st,fun v z=>by
   have z':Data.fields _=Data.cell v:=z
   cases z'⟩
 keep:=fun i h h' st k=>k it (by simp) _ st
 item:=by
  intro X hP hw hK hc i pins s σ H E I hf st hg
  subst hP hw hK
  obtain ⟨f0,f1,f2,f3,f4,f5⟩:=hf it (by simp)
  have W:=Walks.range (prog:=X.prog) (w:=X.w) (I.ok.hd hc) it lo c n
  refine W.item i s _ _ hg st fun v h' tk hv st' kk=>?_
  obtain ⟨t,rfl⟩:=hv
  have I1:Inv X pins σ H { s with heap:=h',toks:=tk }:=I.turned (fun b o hb e=>kk b o (by simpa using hb) e) f0 f1 f3 f4 f5
  exact ⟨_,rfl,go_of (s:={ s with heap:=h',toks:=tk }) (n := "range_iterator") st' rfl rfl (by decide) ⟨.int (lo+i*c),H,I1,⟨t,rfl⟩,⟨rfl,rfl⟩,st',fun b hb=>(hf b hb).1⟩⟩
 done:=by
  intro X hP hw hK hc i pins s σ H E I hf st hg
  subst hP hw hK
  obtain ⟨f0,f1,f2,f3,f4,f5⟩:=hf it (by simp)
  exact wpAny_pyNext_range_end (I.ok.hd hc) st (by have:n<=i:=hg;lia) fun h' eb=>⟨rfl,I.turned (t':=s.toks) (fun b o hb e=>eb b o hb e) f0 f1 f3 f4 f5⟩
 self:=fun _ _ _ _ _ st h=>wpAny_pyIter_rangeiter st h
section
variable {X:Cx} {tg:Expr}
theorem k_j{pins:List (Addr×Obj)}{σ:St}{H:Hp}{s:Shared}{R:It->Hp->Prop}{E:Value->Shared->Prop}{lo hi c:Int}{t u v:Tok}{tk:Nat}(I:Inv X pins σ H s)(hsm:Builtin.Range.small lo hi c=true)
  (q:R (Itrs lo c (Builtin.Range.rangeSize lo hi c).toNat) H):wpAny (model X.prog X.w) X.A (pyIter (.ref s.heap.objs.size)) (PIE X pins σ tg R) E { s with heap:=s.heap.push { cls:=.type "range",data:=.fields #[.int lo t,.int hi u,.int c v] },toks:=tk }:=by
 refine wpAny_pyIter_range (IsRange.new ..) hsm ?_
 have I1:Inv X pins σ H { s with heap:=s.heap.push { cls:=.type "range",data:=.fields #[.int lo t,.int hi u,.int c v] },toks:=tk }:=I.kept fun b o e=>Heap.get?_push_of_some _ e
 refine ⟨(s.heap.push { cls:=.type "range",data:=.fields #[.int lo t,.int hi u,.int c v] }).objs.size,[(s.heap.push { cls:=.type "range",data:=.fields #[.int lo t,.int hi u,.int c v] }).objs.size],_,_,H,rfl,
  I1.kept (t':=tk) fun b o e=>Heap.get?_push_of_some _ e,o_f _ lo c _,?_,fun b hb=>?_,q⟩
 ·have e1:lo+((0:Nat):Int)*c=lo:=by simp
  have e2:(((Builtin.Range.rangeSize lo hi c).toNat:Nat):Int)-((0:Nat):Int)=Builtin.Range.rangeSize lo hi c:=by have:=rangeSize_toNat lo hi c;lia
  show IsRangeIter _ _ (lo+((0:Nat):Int)*c) ((((Builtin.Range.rangeSize lo hi c).toNat:Nat):Int)-((0:Nat):Int)) c
  rw [e1,e2]
  exact Heap.get?_push_size _ rfl
 ·have e:b=(s.heap.push { cls:=.type "range",data:=.fields #[.int lo t,.int hi u,.int c v] }).objs.size:=by simpa using hb
  subst e
  exact I1.fpOk (Nat.le_refl _) (I1.hok.fresh (Nat.le_refl _))
def iRng3(ta:TA):TI:=fun σ H R=>ta σ H fun vs H1=>∃ i j c:Int,vs=[.int i,.int j,.int c]/\(c≠0/\c.natAbs<1073741824/\Builtin.Range.small i j c=true)/\R (Itrs i c (Builtin.Range.rangeSize i j c).toNat) H1
theorem k_g{a b c:Expr}{ta:TA}{p pos:Pos}(hg:Gl X "range")(hm:X.mg "range" = none)(ha:PA X [a,b,c] ta)(hs:starEach [a,b,c] X.env=[(false,eval a X.env),(false,eval b X.env),(false,eval c X.env)]:=by rfl)(hs2:starEach [b,c] X.env=[(false,eval b X.env),(false,eval c X.env)]:=by rfl) :
  PI X tg (.Call (.Name "range" p) [a,b,c] [] pos) (iRng3 ta):=by
 intro pins s σ H R I h
 refine Call_ (v_o I hg hm boot_range (PyProof.Rows.callWith_type1 (thn (ha pos pins s σ H _ I h) fun us s1 ⟨vs,H1,I1,r1,q1⟩=>?_) (by rw [hs,hs2]) (by rw [hs2];rfl)))
 obtain ⟨i,j,k,e,⟨q1,q2,q3⟩,q⟩:=q1
 subst e
 cases r1 with
 | cons r rr =>
  cases rr with
  | cons r' rr =>
   cases rr with
   | cons r'' rr =>
    cases rr
    obtain ⟨t,rfl⟩:=r
    obtain ⟨t',rfl⟩:=r'
    obtain ⟨t'',rfl⟩:=r''
    exact call_range_3 q1 (k_j I1 q3 q) (.inl (PyProof.noPylong_small q2))
end
theorem n_p{lo c:Int}{n:Nat}{g:TG}{tb:TS}{D:Ends}{σ:St}{H:Hp}(Pv:Nat->St->Hp->Prop)(h0:Pv 0 σ H)
  (hs:∀ i σ H,i<n->Pv i σ H->g (.int (lo+i*c)) σ H fun σ2 H2=>tb { D with nx:=Pv (i+1),ct:=Pv (i+1),bk:=D.nx } σ2 H2) (hd:∀ σ H,Pv n σ H->D.nx σ H) :
  ∃ W:Nat->Nat->St->Hp->Prop,(∃ m,W 0 m σ H)/\∀ i m σ H,W i m σ H ->
   ((Itrs lo c n).stop i H/\D.nx σ H)\/((Itrs lo c n).go i H/\∃ N:St->Hp->Prop,(∀ σ' H',N σ' H'->∃ m',m'<m/\W (i+1) m' σ' H')/\∀ x H',(Itrs lo c n).yld i H x H'->g x σ H' fun σ2 H2=>tb { D with nx:=N,ct:=N,bk:=D.nx } σ2 H2):=by
 refine ⟨fun i m σ H=>m=n-i/\i<=n/\Pv i σ H,⟨n,by simp,Nat.zero_le _,h0⟩,?_⟩
 rintro i m σ H ⟨rfl,hi,p⟩
 by_cases hlt:i<n
 ·refine .inr ⟨hlt,Pv (i+1),fun σ' H' p'=>⟨n-(i+1),by lia,rfl,hlt,p'⟩,fun x H' y=>?_⟩
  obtain ⟨e,y⟩:=y
  subst e y
  exact hs i σ _ hlt p
 ·have e:i=n:=by lia
  subst e
  exact .inl ⟨Nat.le_refl _,hd σ H p⟩
open PySem PySem.Spec PyProof.Rows
structure LamAt(mg:Str->Option Value)(base:Heap)(c P:Addr):Prop where
 hd:PySem.W.CodeHd base c P
 bm:∃ bm ob,mg "__builtins__" = some (.ref bm)/\bm≠builtinsNs/\base.get? bm=some ob/\ob.cls = .type "module" /\ ob.dict=some builtinsNs/\ob.data = .plain
abbrev Tab4:=Addr×Addr×Pos×Str
def IsTab(h:Heap)(b:Addr):Prop:=(∃ c,PySem.W.CodeHd h c b)/\h.get? b=some (tabObj #[])
def tabH(tabs:List Tab4):Hp:=fun b=>(tabs.find? fun t=>t.2.1 == b).map fun t=>.tbl t.2.2.1 t.2.2.2
theorem o_e:∀ {tabs:List Tab4},(tabs.map (·.2.1)).Nodup->∀ t∈tabs,tabH tabs t.2.1=some (.tbl t.2.2.1 t.2.2.2)
 | [],_,t,h=>nomatch h
 | u::r,nd,t,h=>by
  rw [List.map_cons,List.nodup_cons] at nd
  unfold tabH
  rw [List.find?_cons]
  rcases List.mem_cons.mp h with rfl | h
  ·simp
  ·have:(u.2.1 == t.2.1)=false:=by
    simp only [beq_eq_false_iff_ne,ne_eq]
    intro z
    exact nd.1 (z▸List.mem_map_of_mem (f:=fun t:Tab4=>t.2.1) h)
   rw [this]
   exact o_e nd.2 t h
theorem tabH_of{tabs:List Tab4}{b:Addr}{u:HO}(h:tabH tabs b=some u):∃ t∈tabs,t.2.1=b/\u = .tbl t.2.2.1 t.2.2.2:=by
 unfold tabH at h
 obtain ⟨t,h1,h2⟩:=Option.map_eq_some_iff.mp h
 exact ⟨t,List.mem_of_find?_eq_some h1,eq_of_beq (List.find?_some (p:=fun t:Tab4=>t.2.1 == b) h1),h2.symm⟩
theorem l_q{P:Program}{w:World}{K:PySem.W.Frag}{mg mb:Str->Option Value}{CX:CXT}{k:Nat}{fa a:Addr}{fd:FuncData}{x:Str}{sp:Sp}{s₁:Shared}{vs:List Value}{ns:List Int}{tabs:List Tab4}
  (KX:K.In s₁.heap) (hns:s₁.heap.Ns mainGlobals mg) (hb:s₁.heap.Ns builtinsNs mb) (hbb:∀ x:Str,x ≠ "__name__" -> mb x=bootBuiltins x) (hlim:s₁.heap.NoLimit) (hg:s₁.gens = #[])
  (ha:s₁.heap.get? a=some { cls:=.type "list",data:=.seq vs.toArray }) (hi:IntsAre vs ns) (hl:ns.length<=sizeLine) (hr:Room k callerA)
  (hT:∀ t∈tabs,PySem.W.CodeHd s₁.heap t.1 t.2.1/\s₁.heap.get? t.2.1=some (tabObj #[])) (hNd:(tabs.map (·.2.1)).Nodup) (hNo:noTabs K=true)
  (hbm:∃ bm ob,mg "__builtins__" = some (.ref bm)/\bm≠builtinsNs/\s₁.heap.get? bm=some ob/\ob.cls = .type "module" /\ ob.dict=some builtinsNs/\ob.data = .plain)
  (F:∀ base:Heap,K.In base->base.Ns mainGlobals mg->(∀ t∈tabs,LamAt mg base t.1 t.2.1)->FnOk P w K mg base CX k fa fd [x] sp) (hbind:∀ (s:Shared) (u:Value),BindsTo s fd ⟨[u],[]⟩ [(x,u)])
  (hsp:∀ H:Hp,(∀ t∈tabs,H t.2.1=some (.tbl t.2.2.1 t.2.2.2))->SqL K H a (ns.map V.int)->sp [.ref a] H (fun v _=>v = .bl true) fun _ _ _=>False)
  (hCX:∀ H e s',CX [] H s₁ (fun _ _ _=>False) e s'->False) :
  codeAny (model P w) callerA (.call (.ref fa) ⟨[.ref a],[]⟩) (fun r s'=>r = .ok (.ret (.bool true))/\OldK s₁.heap s'.heap/\s'.os=s₁.os/\AllBare s'.gens) s₁:=by
 have rv:=p_k hi
 have lenV:=hi.length
 have core:∀ H:Hp,(∀ b u,H b=some u->(b=a/\K.lookup a=none/\∃ o xs,u = .frz o (.lst xs))\/(IsTab s₁.heap b/\∃ p q,u = .tbl p q))->(∀ t∈tabs,H t.2.1=some (.tbl t.2.2.1 t.2.2.2))->SqL K H a (ns.map V.int)->HOk P w H s₁.heap ->
   codeAny (model P w) callerA (.call (.ref fa) ⟨[.ref a],[]⟩) (fun r s'=>r = .ok (.ret (.bool true))/\OldK s₁.heap s'.heap/\s'.os=s₁.os/\AllBare s'.gens) s₁:=by
  intro H hO hTb hS hok
  have base_of:∀ {b:Addr} {o:Obj},s₁.heap.get? b=some o->H b=none->(hidT s₁.heap H).get? b=some o:=fun e n=>hidT_get e n
  have noO:∀ {b:Addr} {o:Obj},s₁.heap.get? b=some o->(∀ xs n,o.data ≠ .seq xs n)->o≠tabObj #[]->H b=none:=fun {b o} e d1 d2=>by
   cases q:H b with
   | none=>rfl
   | some u =>
    rcases hO b u q with ⟨rfl,_⟩ | ⟨⟨_,z⟩,_⟩
    ·rw [ha] at e
     cases e
     exact absurd rfl (d1 _ _)
    ·rw [z] at e
     cases e
     exact absurd rfl d2
  have nsK:∀ {b:Addr} {m:Str->Option Value},s₁.heap.Ns b m->(hidT s₁.heap H).Ns b m:=fun {b m} ⟨o,es,ep,e,d,r⟩=>⟨o,es,ep,base_of e (noO e (fun _ _ z=>by rw [d] at z;cases z) (fun z=>by rw [z] at d;cases d)),d,r⟩
  have hKb:K.In (hidT s₁.heap H):=fun b o e=>base_of (KX b o e) (by
   cases q:H b with
   | none=>rfl
   | some u =>
    rcases hO b u q with ⟨rfl,z,_⟩ | ⟨⟨_,z⟩,_⟩
    ·rw [z] at e
     cases e
    ·have e2:=KX b o e
     rw [z] at e2
     cases e2
     exact absurd (show false=true from List.all_eq_true.mp hNo (b,_) (PySem.W.mem_of_lookupK e)) Bool.false_ne_true)
  have hM:Mod K mg (hidT s₁.heap H):=⟨hKb,nsK hns,⟨mb,nsK hb,hbb⟩,let ⟨mc,h1,h2⟩:=hlim;⟨mc,nsK h1,h2⟩⟩
  have e0:Env0 P w K mg (hidT s₁.heap H) callerA [] s₁ H:=⟨rfl,rfl,hM,fun b o e=>of_hidT e,Nat.le_of_eq (l_l _ _),trivial,fun b hb=>absurd (show b∈([]:List Addr) from hb) (by simp),hok,.of_eq hg⟩
  have hLam:∀ t∈tabs,LamAt mg (hidT s₁.heap H) t.1 t.2.1:=fun t ht=>by
   obtain ⟨o,vs,file,tf,flags,tg,inF,text,tt,e1,r1,r2,rest⟩:=(hT t ht).1
   obtain ⟨bm,ob,b1,b2,b3,b4,b5,b6⟩:=hbm
   exact ⟨⟨o,vs,file,tf,flags,tg,inF,text,tt,base_of e1 (noO e1 (fun _ _ z=>by rw [r2] at z;cases z) (fun z=>by rw [z] at r1;cases r1)),r1,r2,rest⟩,bm,ob,b1,b2,base_of b3 (noO b3 (fun _ _ z=>by rw [b6] at z;cases z) (fun z=>by rw [z] at b4;cases b4)),b4,b5,b6⟩
  refine codeAny_mono ((F _ hKb (nsK hns) hLam).run callerA [] s₁ H ⟨[.ref a],[]⟩ [.ref a] [.ref a] _ _ hr e0 (hbind s₁ (.ref a)) (.cons rfl .nil) (hsp H hTb hS)) fun r s' h=>?_
  cases r with
  | error e=>exact (hCX H e s' h).elim
  | ok fl =>
   cases fl with
   | next=>exact False.elim h
   | brk=>exact False.elim h
   | cont=>exact False.elim h
   | ret u =>
    obtain ⟨v,H',os,bare,un,hok',r',q⟩:=h
    have q':v = .bl true:=q
    subst q'
    obtain rfl:u=Value.bool true:=r'
    refine ⟨rfl,⟨fun b o e=>?_,fun b o e=>un.there b o e (by simp)⟩,os,bare⟩
    cases q:H b with
    | none=>exact .inl (un.keep b o e q (by intro z;exact absurd (show b∈([]:List Addr) from z) (by simp)) (by simp))
    | some u =>
     rcases hO b u q with ⟨_,_,ob,xs,rfl⟩ | ⟨⟨⟨c,hc⟩,z⟩,p,q2,rfl⟩
     ·have z2:=un.frzs b ob _ q
      obtain ⟨e1,_⟩:=hok b _ q
      obtain ⟨e2,_⟩:=hok' b _ z2
      rw [e] at e1
      cases e1
      exact .inl e2
     ·obtain ⟨ps,e2,_⟩:=hok' b _ (un.tbls b p q2 q)
      have e1:=z
      rw [e] at z
      cases z
      exact .inr (.inl ⟨(hc.tab e1).isCodeTable,rfl,#[],ps,rfl,by rw [e2];simp⟩)
 have tabOk:∀ b u,tabH tabs b=some u->IsTab s₁.heap b/\∃ p q,u = .tbl p q:=fun b u e=>by
  obtain ⟨t,ht,rfl,rfl⟩:=tabH_of e
  exact ⟨⟨⟨_,(hT t ht).1⟩,(hT t ht).2⟩,_,_,rfl⟩
 have tabHok:∀ {H:Hp} {b:Addr} {u:HO},tabH tabs b=some u->ObjOk P w H s₁.heap b u:=fun {H b u} e=>by
  obtain ⟨⟨_,z⟩,p,q,rfl⟩:=tabOk b u e
  exact ⟨#[],z,trivial,.inl rfl⟩
 cases hk:K.lookup a with
 | some o =>
  have e:=KX a o hk
  rw [ha] at e
  cases e
  exact core (tabH tabs) (fun b u e=>.inr (tabOk b u e)) (o_e hNd) (.inr ⟨_,vs.toArray,_,hk,rfl,rfl,rfl,by rw [List.size_toArray,lenV];exact hl,by simpa using rv⟩) (fun b u e=>tabHok e)
 | none =>
  have nt:∀ t∈tabs,t.2.1≠a:=fun t ht z=>by
   have:=(hT t ht).2
   rw [z,ha] at this
   cases this
  refine core (fun b=>if b=a then some (.frz { cls:=.type "list",data:=.seq vs.toArray } (.lst (ns.map V.int))) else tabH tabs b) (fun b u e=>?_) (fun t ht=>(if_neg (nt t ht)).trans (o_e hNd t ht)) (.inl (.inr ⟨{ cls:=.type "list",data:=.seq vs.toArray },if_pos rfl⟩)) (fun b u e=>?_)
  ·by_cases hb:b=a
   ·have e':=(if_pos hb).symm.trans e
    cases e'
    exact .inl ⟨hb,hk,_,_,rfl⟩
   ·exact .inr (tabOk b u ((if_neg hb).symm.trans e))
  ·by_cases hb:b=a
   ·have e':=(if_pos hb).symm.trans e
    cases e'
    subst hb
    exact ⟨ha,by rw [List.length_map];exact hl,vs,_,rv,ha⟩
   ·exact tabHok ((if_neg hb).symm.trans e)
theorem walk_ofT{l:PySem.W.OpenLaw}{n k:Nat}{q:Program}{loose:List Str}{XP:(Str->Option Value)->Heap->Prop}{YP:World->Heap->Prop}{d:DefRec}{K:Params->PySem.W.Frag}{x:Str}
  (hn:l.most=some n) (hn2:n<=sizeLine) (hdf:d.params.defaults=[]) (hr:Room k callerA)
  (hY:∀ (w:World) (h:Heap),YP w h->(K w.params).In h)
  (F:∀ (w:World) (mg mb:Str->Option Value) (ls:List Str) (mean:ExcName->Option Value) (fa:Addr) (h:Heap),(K w.params).In h->h.Ns mainGlobals mg->Top q ls mean mg mb h->mg d.name=some (.ref fa) ->
   ∃ (fd:FuncData) (tabs:List Tab4) (sp:Sp),(∀ (s:Shared) (u:Value),BindsTo s fd ⟨[u],[]⟩ [(x,u)])/\(∀ t∈tabs,PySem.W.CodeHd h t.1 t.2.1/\h.get? t.2.1=some (tabObj #[]))/\(tabs.map (·.2.1)).Nodup/\noTabs (K w.params)=true /\
    (∀ base:Heap,(K w.params).In base->base.Ns mainGlobals mg->(∀ t∈tabs,LamAt mg base t.1 t.2.1)->FnOk l.prog w (K w.params) mg base CX0 k fa fd [x] sp) /\
    ∀ (H:Hp) (a:Addr) (ns:List Int),ns.length<=n->(∀ t∈tabs,H t.2.1=some (.tbl t.2.2.1 t.2.2.2))->SqL (K w.params) H a (ns.map V.int)->sp [.ref a] H (fun v _=>v = .bl true) fun _ _ _=>False) :
  PySem.W.WalkO q loose XP YP l.row.toRowW d [] (fun f vs=>PySem.call f vs):=by
 refine Att.attach_call hn hdf fun w s₀ s₁ mg mb fa o pm cd doc a vs ns G Y ho hd hcd hmg hobj hints hlen hg=>?_
 have KX:=hY w _ Y
 obtain ⟨fd,tabs,sp,hb,hT,hNd,hNo,hF,hsp⟩:=F w mg mb _ _ fa _ KX G.T.g G.T hmg
 exact l_q KX G.T.g G.T.b G.T.builtins G.T.nolimit hg hobj hints (Nat.le_trans hlen hn2) hr hT hNd hNo G.T.bmain hF hb (fun H h1 h2=>hsp H a ns hlen h1 h2) fun _ _ _ z=>z
section
variable {X:Cx} {pins:List (Addr×Obj)} {σ:St} {H:Hp} {s:Shared} {h':Heap}
theorem Inv.turnedL{t':Nat}{ch:List Addr}(I:Inv X pins σ H s)(k:∀ b o,b∉ch->s.heap.get? b=some o->h'.get? b=some o)(hc:∀ b∈ch,FpOk X pins H b):Inv X pins σ H { s with heap:=h',toks:=t' }:=by
 have nit:∀ b u,H b=some u->b∉ch:=fun b u e z=>by have:=(hc b z).1;rw [this] at e;cases e
 refine I.step (g':=s.gens) (d':=s.drawn) (ch:=ch) (fun b hb=>?_) (fun b o _ _ hn e _=>k b o hn e) (fun b o _ _ hn e _=>⟨o.slots,k b o hn e⟩) (fun _ _ _ _ n=>n)
  (fun b o hn e=>⟨o,k b o hn e⟩) (fun _ _ e=>e) (fun _ _ _ e=>e) (fun _ _ _ e=>e) (fun m hm=>?_) (fun b u e=>?_) I.bare
 ·obtain ⟨_,f1,_,f3,f4,f5⟩:=hc b hb
  exact ⟨f3,f1,f4,f5⟩
 ·obtain ⟨o,es,ep,ho,r⟩:=hm
  exact ⟨o,es,ep,k _ o (fun z=>(hc _ z).2.1 rfl) ho,r⟩
 ·refine (I.hok b u e).stay (fun c v hn q=>k c v ?_ q) (fun _ q=>q) (fun _ _ q=>q) fun _ _ _ q=>q
  rcases hn with z | z
  ·rw [z];exact nit b u e
  ·exact nit c _ z
end
def Itz(K : PySem.W.Frag)(a b : Addr) : It :=
  ⟨fun i H => ∃ xs ys x y, SqL K H a xs /\ SqL K H b ys /\ xs[i]? = some x /\ ys[i]? = some y,
   fun i H v H' => ∃ p x y, v = .ref p /\ H p = none /\ H' = upd H p (.tup [x, y]) /\ (∀ xs, SqL K H a xs -> xs[i]? = some x) /\ ∀ ys, SqL K H b ys -> ys[i]? = some y,
   fun i H => ∃ xs ys, SqL K H a xs /\ SqL K H b ys /\ (xs.length <= i \/ ys.length <= i)⟩
theorem turn_zip{P:Program}{w:World}{K:PySem.W.Frag}{elts:List Expr}{kk:Nat}{pos:Pos}(a b z TI TO i1 i2:Addr)(D:ZipApart z TI TO i1 i2 a b) :
  Turn P w K (.Tuple elts kk pos) (Itz K a b) [z,TI,TO,i1,i2] z (fun i h=>IsZip h z TI TO .none/\IsPair h TI (.ref i1) (.ref i2)/\(∃ c d,IsPair h TO c d)/\h.IsListIter i1 a i/\h.IsListIter i2 b i) where
 mem:=by simp
 obj:=fun i h st c hc=>by
  obtain ⟨h1,h2,⟨x,y,h3⟩,⟨o4,e4,c4,d4⟩,⟨o5,e5,c5,d5⟩⟩:=st
  have hc':c=z\/c=TI\/c=TO\/c=i1\/c=i2:=by simpa using hc
  rcases hc' with rfl | rfl | rfl | rfl | rfl
  ·exact ⟨_,h1,fun v q=>by cases q⟩
  ·exact ⟨_,h2,fun v q=>by cases q⟩
  ·exact ⟨_,h3,fun v q=>by cases q⟩
  ·exact ⟨o4,e4,fun v q=>by rw [d4] at q;cases q⟩
  ·exact ⟨o5,e5,fun v q=>by rw [d5] at q;cases q⟩
 keep:=fun i h h' st k=>by
  obtain ⟨h1,h2,⟨x,y,h3⟩,h4,h5⟩:=st
  exact ⟨k z (by simp) _ h1,k TI (by simp) _ h2,⟨x,y,k TO (by simp) _ h3⟩,h4.at fun o e=>k i1 (by simp) o e,h5.at fun o e=>k i2 (by simp) o e⟩
 item:=by
  intro X hP hw hK hc i pins s σ H E I hf st hg
  subst hP hw hK
  obtain ⟨xs,ys,x,y,hq1,hq2,hx,hy⟩:=hg
  obtain ⟨its1,rv1,p1,hz1⟩:=I.list hq1
  obtain ⟨its2,rv2,p2,hz2⟩:=I.list hq2
  obtain ⟨u1,hu1,ru1⟩:=rv1.get hx
  obtain ⟨u2,hu2,ru2⟩:=rv2.get hy
  obtain ⟨sz,sTI,⟨c,d,sTO⟩,s1,s2⟩:=st
  refine wpAny_pyNext_zip_item D sz sTI sTO s1 s2 p1.isList p2.isList (x:=u1) (y:=u2) (by simpa using hu1) (by simpa using hu2) fun h' b1 b2 b3 b4 b5 b6 hk=>?_
  have lt:∀ {c o},s.heap.get? c=some o->c≠s.heap.objs.size:=fun e=>Nat.ne_of_lt (Heap.lt_size e)
  have I0:Inv X pins σ (upd H s.heap.objs.size (.tup [x,y])) { s with heap:=s.heap.push { cls:=.type "tuple",data:=.seq #[u1,u2] },toks:=s.toks } :=
   I.laid (a:=s.heap.objs.size) (o:=.tup [x,y]) (t':=s.toks) (fun b u e=>Heap.get?_push_of_some _ e) (Nat.le_refl _) ⟨zl2,[u1,u2],.cons ru1 (.cons ru2 .nil),_,Heap.get?_push_size _ rfl,rfl,_,rfl⟩
  have hnone:∀ c∈[z,TI,TO,i1,i2],(upd H s.heap.objs.size (.tup [x,y])) c=none:=fun c hc'=>by
   have hne:c≠s.heap.objs.size:=by
    have hc'':c=z\/c=TI\/c=TO\/c=i1\/c=i2:=by simpa using hc'
    rcases hc'' with rfl | rfl | rfl | rfl | rfl
    ·exact lt sz
    ·exact lt sTI
    ·exact lt sTO
    ·obtain ⟨_,e,_⟩:=s1;exact lt e
    ·obtain ⟨_,e,_⟩:=s2;exact lt e
   rw [z_m hne]
   exact (hf c hc').1
  have hf':∀ c∈[z,TI,TO,i1,i2],FpOk X pins (upd H s.heap.objs.size (.tup [x,y])) c:=fun c hc'=>⟨hnone c hc',(hf c hc').2⟩
  have kk1:∀ c o,c∉[z,TO,i1,i2]->(s.heap.push { cls:=.type "tuple",data:=.seq #[u1,u2] }).get? c=some o->h'.get? c=some o:=fun c o hn e=>by
   rcases Heap.get?_push_cases e with ⟨rfl,rfl⟩ | e'
   ·exact b5
   ·exact hk c o (fun q=>hn (by simp [q])) (fun q=>hn (by simp [q])) (fun q=>hn (by simp [q])) (fun q=>hn (by simp [q])) e'
  have kk2:∀ c∈[z,TO,i1,i2],FpOk X pins (upd H s.heap.objs.size (.tup [x,y])) c:=fun c hc'=>hf' c (by
   have hc'':c=z\/c=TO\/c=i1\/c=i2:=by simpa using hc'
   rcases hc'' with rfl | rfl | rfl | rfl<;>simp)
  have I1:=I0.turnedL (h':=h') (t':=s.toks) (ch:=[z,TO,i1,i2]) kk1 kk2
  refine ⟨_,rfl,wpAny_letOwnedTupleGo_zip b1 fun h2 c1 c2=>?_⟩
  have I2:=I1.turnedL (h':=h2) (t':=s.toks) (ch:=[z]) (fun c o hn e=>(c2.2 c (fun q=>hn (by simp [q]))).trans e) (fun c hc'=>hf' c (by rw [List.mem_singleton.mp hc'];simp))
  refine ⟨.ref s.heap.objs.size,_,I2,rfl,⟨_,x,y,rfl,I.hok.fresh (Nat.le_refl _),rfl,fun xs' q=>by rw [I.list_inj q hq1];exact hx,fun ys' q=>by rw [I.list_inj q hq2];exact hy⟩,?_,hnone⟩
  have mv:∀ c o,c≠z->h'.get? c=some o->h2.get? c=some o:=fun c o hn e=>(c2.2 c hn).trans e
  exact ⟨c1,mv _ _ D.TIz (hk _ _ D.TIz D.TITO D.TIi1 D.TIi2 sTI),⟨_,_,mv _ _ D.TOz b2⟩,b3.at fun o e=>mv _ o D.i1z e,b4.at fun o e=>mv _ o D.i2z e⟩
 done:=by
  intro X hP hw hK hc i pins s σ H E I hf st hg
  subst hP hw hK
  obtain ⟨xs,ys,hq1,hq2,hx⟩:=hg
  obtain ⟨its1,rv1,p1,hz1⟩:=I.list hq1
  obtain ⟨its2,rv2,p2,hz2⟩:=I.list hq2
  have l1:=rv1.length
  have l2:=rv2.length
  obtain ⟨sz,sTI,⟨c,d,sTO⟩,s1,s2⟩:=st
  refine wpAny_pyNext_zip_end (I.ok.hd hc) D sz sTI sTO s1 s2 p1.isList p2.isList ?_ fun h' hk=>⟨rfl,I.turnedL (t':=s.toks) (ch:=[z,TO,i1,i2]) (fun c o hn e=>hk c o (fun q=>hn (by simp [q])) (fun q=>hn (by simp [q])) (fun q=>hn (by simp [q])) (fun q=>hn (by simp [q])) e) (fun c hc'=>hf c ?_)⟩
  ·rcases hx with q | q
   ·exact .inl (by simp;lia)
   ·exact .inr (by simp;lia)
  ·have hc'':c=z\/c=TO\/c=i1\/c=i2:=by simpa using hc'
   rcases hc'' with rfl | rfl | rfl | rfl<;>simp
 self:=fun _ _ _ _ _ st h=>wpAny_pyIter_zip st.1 h
def iZip(K:PySem.W.Frag)(ta:TA):TI:=fun σ H R=>ta σ H fun vs H1=>∃ a b,vs=[.ref a,.ref b]/\(∃ xs,SqL K H1 a xs)/\(∃ ys,SqL K H1 b ys)/\R (Itz K a b) H1
theorem pi_zip{X:Cx}{elts:List Expr}{kk:Nat}{tpos:Pos}{a b:Expr}{ta:TA}{p pos:Pos}(hg:Gl X "zip")(hm:X.mg "zip" = none)(ha:PA X [a,b] ta)(hs:starEach [a,b] X.env=[(false,eval a X.env),(false,eval b X.env)]:=by rfl)(hs2:starEach [b] X.env=[(false,eval b X.env)]:=by rfl) :
  PI X (.Tuple elts kk tpos) (.Call (.Name "zip" p) [a,b] [] pos) (iZip X.K ta):=by
 intro pins s σ H R I h
 refine Call_ (v_o I hg hm PyProof.Rows.boot_zip (PyProof.Rows.callWith_type1 (thn (ha pos pins s σ H _ I h) fun us s1 ⟨vs,H1,I1,r1,q1⟩=>?_) (by rw [hs,hs2]) (by rw [hs2];rfl)))
 obtain ⟨l1,l2,e,⟨xs,hq1⟩,⟨ys,hq2⟩,q⟩:=q1
 subst e
 cases r1 with
 | cons r rr =>
  cases rr with
  | cons r' rr =>
   cases rr
   cases r
   cases r'
   obtain ⟨its1,rv1,p1,hz1⟩:=I1.list hq1
   obtain ⟨its2,rv2,p2,hz2⟩:=I1.list hq2
   have hlt1 : @LT.lt Nat _ l1 s1.heap.objs.size:=by obtain ⟨o,e,_⟩:=p1.isList;exact Heap.lt_size e
   have hlt2 : @LT.lt Nat _ l2 s1.heap.objs.size:=by obtain ⟨o,e,_⟩:=p2.isList;exact Heap.lt_size e
   refine call_zip_2 p1.isList p2.isList fun h' hz hTI hTO hi1 hi2 hsz hk=>wpAny_pyIter_zip hz ?_
   have D:ZipApart (s1.heap.objs.size+4) (s1.heap.objs.size+2) (s1.heap.objs.size+3) s1.heap.objs.size (s1.heap.objs.size+1) l1 l2:=PySem.W.ktu_apart _ _ _ hlt1 hlt2
   refine ⟨_,[s1.heap.objs.size+4,s1.heap.objs.size+2,s1.heap.objs.size+3,s1.heap.objs.size,s1.heap.objs.size+1],_,_,H1,rfl,I1.kept (t':=s1.toks) hk,turn_zip l1 l2 _ _ _ _ _ D,⟨hz,hTI,⟨_,_,hTO⟩,hi1,hi2⟩,fun c hc=>?_,q⟩
   have hc':c=s1.heap.objs.size+4\/c=s1.heap.objs.size+2\/c=s1.heap.objs.size+3\/c=s1.heap.objs.size\/c=s1.heap.objs.size+1:=by simpa using hc
   have hle : @LE.le Nat _ s1.heap.objs.size c:=by
    rcases hc' with rfl | rfl | rfl | rfl | rfl
    ·exact Nat.le_add_right _ _
    ·exact Nat.le_add_right _ _
    ·exact Nat.le_add_right _ _
    ·exact Nat.le_refl _
    ·exact Nat.le_add_right _ _
   exact I1.fpOk hle (I1.hok.fresh hle)
open PySem PySem.Spec PyProof.Rows
open PySem
end L2
namespace HT
open PySem PyProof.Rows
end HT
namespace L2
open PySem PySem.Spec PyProof.Rows
open PySem
def bt(X i:Nat):Nat:=X/2^i%2
section
variable {X:Cx}
theorem vals_app{xs ys:List V}{us vs:List Value}(a:Vals xs us)(b:Vals ys vs):Vals (xs++ys) (us++vs):=by
 induction a with
 | nil=>exact b
 | cons r t ih=>exact .cons r ih
theorem vals_rev{xs:List V}{us:List Value}(a:Vals xs us):Vals xs.reverse us.reverse:=by
 induction a with
 | nil=>exact .nil
 | cons r t ih =>
  rw [List.reverse_cons,List.reverse_cons]
  exact vals_app ih (.cons r .nil)
end
end L2
namespace L2
open PySem PySem.Spec PyProof.Rows PySem.SeqAt MeetsSeq MeetsSeq2 MeetsSeq3
open AutoSeq1 (wpAny_loadPart')
end L2
namespace L2
open PySem PySem.Spec PyProof.Rows PySem.SeqAt MeetsSeq MeetsSeq2 MeetsSeq3
open AutoSeq1 (wpAny_loadPart')
end L2
namespace L2
open PySem PySem.Spec PyProof.Rows
def Ite(K : PySem.W.Frag)(a : Addr) : It :=
  ⟨fun i H => ∃ xs x, SqL K H a xs /\ xs[i]? = some x,
   fun i H v H' => ∃ p x, v = .ref p /\ H p = none /\ H' = upd H p (.tup [.int (i : Int), x]) /\ ∀ xs, SqL K H a xs -> xs[i]? = some x,
   fun i H => ∃ xs, SqL K H a xs /\ xs.length <= i⟩
theorem k_y{P:Program}{w:World}{K:PySem.W.Frag}{elts:List Expr}{kk:Nat}{pos:Pos}(a e it:Addr)(hne:e≠it) :
  Turn P w K (.Tuple elts kk pos) (Ite K a) [e,it] e (fun i h=>(∃ old,IsEnum h e it (i:Int) old)/\h.IsListIter it a i) where
 mem:=by simp
 obj:=fun i h st c hc=>by
  obtain ⟨⟨old,h1⟩,⟨o4,e4,c4,d4⟩⟩:=st
  have hc':c=e\/c=it:=by simpa using hc
  rcases hc' with rfl | rfl
  ·exact ⟨_,h1,fun v q=>by cases q⟩
  ·exact ⟨o4,e4,fun v q=>by rw [d4] at q;cases q⟩
 keep:=fun i h h' st k=>by
  obtain ⟨⟨old,h1⟩,h2⟩:=st
  exact ⟨⟨old,k e (by simp) _ h1⟩,h2.at fun o q=>k it (by simp) o q⟩
 item:=by
  intro X hP hw hK hc i pins s σ H E I hf st hg
  subst hP hw hK
  obtain ⟨xs,x,hq,hx⟩:=hg
  obtain ⟨its,rv,p1,hz1⟩:=I.list hq
  obtain ⟨u1,hu1,ru1⟩:=rv.get hx
  obtain ⟨⟨old,se⟩,si⟩:=st
  refine wpAny_pyNext_enum_item se si p1.isList (x:=u1) (by simpa using hu1) hne fun h' b1 b2 b3 b4 hk=>?_
  have lt:∀ {c o},s.heap.get? c=some o->c≠s.heap.objs.size:=fun z=>Nat.ne_of_lt (Heap.lt_size z)
  have I0:Inv X pins σ (upd H s.heap.objs.size (.tup [.int (i:Int),x])) { s with heap:=s.heap.push { cls:=.type "tuple",data:=.seq #[.int i s.toks,u1] },toks:=s.toks+1 } :=
   I.laid (a:=s.heap.objs.size) (o:=.tup [.int (i:Int),x]) (t':=s.toks+1) (fun b u z=>Heap.get?_push_of_some _ z) (Nat.le_refl _) ⟨zl2,[.int i s.toks,u1],.cons ⟨_,rfl⟩ (.cons ru1 .nil),_,Heap.get?_push_size _ rfl,rfl,_,rfl⟩
  have hnone:∀ c∈[e,it],(upd H s.heap.objs.size (.tup [.int (i:Int),x])) c=none:=fun c hc'=>by
   have hne':c≠s.heap.objs.size:=by
    have hc'':c=e\/c=it:=by simpa using hc'
    rcases hc'' with rfl | rfl
    ·exact lt se
    ·obtain ⟨_,z,_⟩:=si;exact lt z
   rw [z_m hne']
   exact (hf c hc').1
  have hf':∀ c∈[e,it],FpOk X pins (upd H s.heap.objs.size (.tup [.int (i:Int),x])) c:=fun c hc'=>⟨hnone c hc',(hf c hc').2⟩
  have kk1:∀ c o,c∉[e,it]->(s.heap.push { cls:=.type "tuple",data:=.seq #[.int i s.toks,u1] }).get? c=some o->h'.get? c=some o:=fun c o hn z=>by
   rcases Heap.get?_push_cases z with ⟨rfl,rfl⟩ | z'
   ·exact b3
   ·exact hk c o (fun q=>hn (by simp [q])) (fun q=>hn (by simp [q])) z'
  have I1:=I0.turnedL (h':=h') (t':=s.toks+1) (ch:=[e,it]) kk1 hf'
  refine ⟨_,rfl,wpAny_letOwnedTupleGo_enum b1 fun h2 c1 c2=>?_⟩
  have I2:=I1.turnedL (h':=h2) (t':=s.toks+1) (ch:=[e]) (fun c o hn z=>(c2.2 c (fun q=>hn (by simp [q]))).trans z) (fun c hc'=>hf' c (by rw [List.mem_singleton.mp hc'];simp))
  refine ⟨.ref s.heap.objs.size,_,I2,rfl,⟨_,x,rfl,I.hok.fresh (Nat.le_refl _),rfl,fun xs' q=>by rw [I.list_inj q hq];exact hx⟩,⟨⟨u1,?_⟩,b2.at fun o z=>(c2.2 it (Ne.symm hne)).trans z⟩,hnone⟩
  rw [show ((i+1:Nat):Int)=(i:Int)+1 by lia]
  exact c1
 done:=by
  intro X hP hw hK hc i pins s σ H E I hf st hg
  subst hP hw hK
  obtain ⟨xs,hq,hx⟩:=hg
  obtain ⟨its,rv,p1,hz1⟩:=I.list hq
  have l1:=rv.length
  obtain ⟨⟨old,se⟩,si⟩:=st
  obtain ⟨f0,f1,f2,f3,f4,f5⟩:=hf it (by simp)
  exact wpAny_pyNext_enum_end (I.ok.hd hc) se si p1.isList (by simp;lia) fun h' eb=>⟨rfl,I.turned (t':=s.toks) (fun b o hb z=>eb b o hb z) f0 f1 f3 f4 f5⟩
 self:=fun _ _ _ _ _ st h=>by
  obtain ⟨⟨old,h1⟩,_⟩:=st
  exact wpAny_pyIter_enum h1 h
def iEnum(K:PySem.W.Frag)(ta:TA):TI:=fun σ H R=>ta σ H fun vs H1=>∃ a,vs=[.ref a]/\(∃ xs,SqL K H1 a xs)/\R (Ite K a) H1
theorem r_g{X:Cx}{elts:List Expr}{kk:Nat}{tpos:Pos}{a:Expr}{ta:TA}{p pos:Pos}(hg:Gl X "enumerate")(hm:X.mg "enumerate" = none)(ha:PA X [a] ta)(hs:starEach [a] X.env=[(false,eval a X.env)]:=by rfl) :
  PI X (.Tuple elts kk tpos) (.Call (.Name "enumerate" p) [a] [] pos) (iEnum X.K ta):=by
 intro pins s σ H R I h
 refine Call_ (v_o I hg hm PyProof.Rows.boot_enumerate (PyProof.Rows.callWith_type1 (thn (ha pos pins s σ H _ I h) fun us s1 ⟨vs,H1,I1,r1,q1⟩=>?_) hs rfl))
 obtain ⟨l1,e,⟨xs,hq1⟩,q⟩:=q1
 subst e
 cases r1 with
 | cons r rr =>
  cases rr
  cases r
  obtain ⟨its1,rv1,p1,hz1⟩:=I1.list hq1
  refine call_enumerate_list p1.isList fun h' he hit hsz hk=>wpAny_pyIter_enum he ?_
  refine ⟨_,[s1.heap.objs.size+1,s1.heap.objs.size],_,_,H1,rfl,I1.kept (t':=s1.toks) hk,k_y l1 _ _ (Nat.succ_ne_self _),⟨⟨_,he⟩,hit⟩,fun c hc=>?_,q⟩
  have hc':c=s1.heap.objs.size+1\/c=s1.heap.objs.size:=by simpa using hc
  have hle : @LE.le Nat _ s1.heap.objs.size c:=by
   rcases hc' with rfl | rfl
   ·exact Nat.le_add_right _ _
   ·exact Nat.le_refl _
  exact I1.fpOk hle (I1.hok.fresh hle)
theorem for_enum{K:PySem.W.Frag}{a:Addr}{xs:List V}{g:TG}{tb:TS}{D:Ends}{σ:St}{H:Hp}(Pv:Nat->St->Hp->Prop)(h0:Pv 0 σ H)(hl:∀ i σ H,i<=xs.length->Pv i σ H->SqL K H a xs)
  (hs:∀ i x p σ H,xs[i]? = some x->Pv i σ H->H p=none->g (.ref p) σ (upd H p (.tup [.int (i:Int),x])) fun σ2 H2=>tb { D with nx:=Pv (i+1),ct:=Pv (i+1),bk:=D.nx } σ2 H2) (hd:∀ σ H,Pv xs.length σ H->D.nx σ H) :
  ∃ W:Nat->Nat->St->Hp->Prop,(∃ m,W 0 m σ H)/\∀ i m σ H,W i m σ H ->
   ((Ite K a).stop i H/\D.nx σ H)\/((Ite K a).go i H/\∃ N:St->Hp->Prop,(∀ σ' H',N σ' H'->∃ m',m'<m/\W (i+1) m' σ' H')/\∀ x H',(Ite K a).yld i H x H'->g x σ H' fun σ2 H2=>tb { D with nx:=N,ct:=N,bk:=D.nx } σ2 H2):=by
 refine ⟨fun i m σ H=>m=xs.length-i/\i<=xs.length/\Pv i σ H,⟨xs.length,by simp,Nat.zero_le _,h0⟩,?_⟩
 rintro i m σ H ⟨rfl,hi,p⟩
 have q1:=hl i σ H hi p
 by_cases hlt:i<xs.length
 ·refine .inr ⟨⟨xs,xs[i],q1,by simp [hlt]⟩,Pv (i+1),fun σ' H' p'=>⟨xs.length-(i+1),by lia,rfl,hlt,p'⟩,fun v H' y=>?_⟩
  obtain ⟨pp,x,rfl,hp,rfl,e1⟩:=y
  exact hs i x pp σ H (e1 xs q1) p hp
 ·have e:i=xs.length:=by lia
  subst e
  exact .inl ⟨⟨xs,q1,Nat.le_refl _⟩,hd σ H p⟩
theorem l_d{K:PySem.W.Frag}{n:Nat}{c:St}{g:TG}{tt:TT}{te:TE}{H:Hp}{Fin:List V->Hp->Prop}{a:Addr}{xs:List V}(Pv:Nat->List V->Hp->Prop)(h0:Pv 0 [] H)(hl:∀ i ys H,i<=xs.length->Pv i ys H->SqL K H a xs)(hz:∀ i ys H,i<xs.length->Pv i ys H->ys.length<sizeLine)
  (hs:∀ i x p ys H (os:St),os.length=n->xs[i]? = some x->Pv i ys H->H p=none->g (.ref p) (os++c) (upd H p (.tup [.int (i:Int),x])) fun σ2 H2=>tt σ2 H2 fun b H3=>if b=true then te σ2 H3 fun y H4=>Pv (i+1) (ys++[y]) H4 else Pv (i+1) ys H3)
  (hd:∀ ys H,Pv xs.length ys H->Fin ys H):CompG (Ite K a) n c g tt te H Fin:=by
 refine ⟨fun i m ys H=>m=xs.length-i/\i<=xs.length/\Pv i ys H,⟨xs.length,by simp,Nat.zero_le _,h0⟩,?_⟩
 rintro i m ys H ⟨rfl,hi,p⟩
 have q1:=hl i ys H hi p
 by_cases hlt:i<xs.length
 ·refine .inr ⟨⟨xs,xs[i],q1,by simp [hlt]⟩,hz i ys H hlt p,Pv (i+1),fun ys' H' p'=>⟨xs.length-(i+1),by lia,rfl,hlt,p'⟩,fun v H' y os hos=>?_⟩
  obtain ⟨pp,x,rfl,hp,rfl,e1⟩:=y
  exact hs i x pp ys H os hos (e1 xs q1) p hp
 ·have e:i=xs.length:=by lia
  subst e
  exact .inl ⟨⟨xs,q1,Nat.le_refl _⟩,hd ys H p⟩
open PySem
theorem p_y{X:Cx}{tg it:Expr}{w1 w2:TI}(h1:PI X tg it w1)(h2:PI X tg it w2):PI X tg it (fun σ H R=>w1 σ H R\/w2 σ H R):=by
 intro pins s σ H R I h
 rcases h with h | h
 ·exact h1 pins s σ H R I h
 ·exact h2 pins s σ H R I h
theorem comp_zip{K:PySem.W.Frag}{n:Nat}{c:St}{g:TG}{tt:TT}{te:TE}{H:Hp}{Fin:List V->Hp->Prop}{a b:Addr}{xs us:List V}(Pv:Nat->List V->Hp->Prop)(h0:Pv 0 [] H)(hl:∀ i ys H,i<=xs.length->Pv i ys H->SqL K H a xs/\SqL K H b us)(he:xs.length=us.length)(hz:∀ i ys H,i<xs.length->Pv i ys H->ys.length<sizeLine)
  (hs:∀ i x y p ys H (os:St),os.length=n->xs[i]? = some x->us[i]? = some y->Pv i ys H->H p=none->g (.ref p) (os++c) (upd H p (.tup [x,y])) fun σ2 H2=>tt σ2 H2 fun b H3=>if b=true then te σ2 H3 fun y H4=>Pv (i+1) (ys++[y]) H4 else Pv (i+1) ys H3)
  (hd:∀ ys H,Pv xs.length ys H->Fin ys H):CompG (Itz K a b) n c g tt te H Fin:=by
 refine ⟨fun i m ys H=>m=xs.length-i/\i<=xs.length/\Pv i ys H,⟨xs.length,by simp,Nat.zero_le _,h0⟩,?_⟩
 rintro i m ys H ⟨rfl,hi,p⟩
 obtain ⟨q1,q2⟩:=hl i ys H hi p
 by_cases hlt:i<xs.length
 ·have hlt2:i<us.length:=by lia
  refine .inr ⟨⟨xs,us,xs[i],us[i],q1,q2,by simp [hlt],by simp [hlt2]⟩,hz i ys H hlt p,Pv (i+1),fun ys' H' p'=>⟨xs.length-(i+1),by lia,rfl,hlt,p'⟩,fun v H' y os hos=>?_⟩
  obtain ⟨pp,x,y,rfl,hp,rfl,e1,e2⟩:=y
  exact hs i x y pp ys H os hos (e1 xs q1) (e2 us q2) p hp
 ·have e:i=xs.length:=by lia
  subst e
  exact .inl ⟨⟨xs,us,q1,q2,.inl (Nat.le_refl _)⟩,hd ys H p⟩
def leF(ins m tot box gate e:Int):Int:=if ins+m<e/2 then 2*(ins+tot+gate+e/2-ins-m)+e%2 else if ins<e/2 then 2*(e/2+box)+e%2 else 2*(e/2)+e%2
def F1(A B:Wk)(e:Int):Int:=leF A.ins A.boxes.length (A.boxes.length+B.boxes.length) 0 0 e
def F2(A B:Wk)(e:Int):Int:=leF A.ins B.boxes.length (A.boxes.length+B.boxes.length) A.boxes.length A.gates.length e
def two(A B:Wk):List (Wk×(Int->Int)):=[(A,F1 A B),(B,F2 A B)]
def bx(l:List (Wk×(Int->Int))):List (Int×Int):=l.flatMap fun p=>p.1.boxes.map fun q=>(q.1,p.2 q.2)
def gt(l:List (Wk×(Int->Int))):List (Int×Int):=l.flatMap fun p=>p.1.gates.map fun q=>(p.2 q.1,p.2 q.2)
def ot(l:List (Wk×(Int->Int))):List Int:=l.flatMap fun p=>p.1.outs.map p.2
def bes(A B:Wk):Wk:=⟨A.ins,bx (two A B),gt (two A B),ot (two A B)⟩
def v_g:Sp:=fun vs H Q _=>∃ (w b g o w' b' g' o':Addr) (A B:Wk) (e:Int),vs=[.ref w,.ref w',.int e]/\IsWkA H w b g o A/\IsWkA H w' b' g' o' B/\Q (.int (F1 A B e)) H
def w_x:Sp:=fun vs H Q _=>∃ (w b g o w' b' g' o':Addr) (A B:Wk) (e:Int),vs=[.ref w,.ref w',.int e]/\IsWkA H w b g o A/\IsWkA H w' b' g' o' B/\A.ins=B.ins/\Q (.int (F2 A B e)) H
def p_d:Sp:=fun vs H Q _=>∃ (w b g o w' b' g' o':Addr) (A B:Wk),vs=[.ref w,.ref w']/\IsWkA H w b g o A/\IsWkA H w' b' g' o' B/\A.Ok/\B.Ok/\A.ins=B.ins /\
 ∀ p q r t H',H p=none->H q=none->H r=none->H t=none->q≠r->q≠t->r≠t->Same H H'->IsWkA H' p q r t (bes A B)->Q (.ref p) H'
def nB(A B:Wk):Nat:=1+A.ins+(A.boxes.length+B.boxes.length)+(A.gates.length+B.gates.length)
theorem w_y(A B:Wk):(bes A B).boxes.length=A.boxes.length+B.boxes.length:=by
 show (bx (two A B)).length=_
 unfold bx two
 simp [List.flatMap_cons]
theorem v_v(A B:Wk):(bes A B).gates.length=A.gates.length+B.gates.length:=by
 show (gt (two A B)).length=_
 unfold gt two
 simp [List.flatMap_cons]
theorem F1_bound{A B:Wk}{e:Int}(h0:0<=e)(h:e<2*(A.knots:Int)):0<=F1 A B e/\F1 A B e<2*(nB A B:Int):=by
 have hk:(A.knots:Int)=1+A.ins+A.boxes.length+A.gates.length:=by show ((1+A.ins+A.boxes.length+A.gates.length:Nat):Int)=_;lia
 unfold F1 leF nB
 split
 ·lia
 ·split<;>lia
theorem F2_bound{A B:Wk}(hi:A.ins=B.ins){e:Int}(h0:0<=e)(h:e<2*(B.knots:Int)):0<=F2 A B e/\F2 A B e<2*(nB A B:Int):=by
 have hk:(B.knots:Int)=1+B.ins+B.boxes.length+B.gates.length:=by show ((1+B.ins+B.boxes.length+B.gates.length:Nat):Int)=_;lia
 unfold F2 leF nB
 split
 ·lia
 ·split<;>lia
abbrev KN:PySem.W.Frag:=[]
theorem SqL.up{K:PySem.W.Frag}{H:Hp}{a:Addr}{xs:List V}(h:SqL KN H a xs):SqL K H a xs:=by
 rcases h with h | ⟨o,_,_,e,_⟩
 ·exact .inl h
 ·exact nomatch (show (none:Option Obj)=some o from e)
theorem SqT.up{K:PySem.W.Frag}{H:Hp}{a:Addr}{xs:List V}(h:SqT KN H a xs):SqT K H a xs:=by
 rcases h with h | ⟨o,_,_,e,_⟩
 ·exact .inl h
 ·exact nomatch (show (none:Option Obj)=some o from e)
section
variable {X:Cx}
theorem v_y:IxR X (rIxL KN):=fun va sl pins s σ H x y v u Q I rx ry ⟨p,xs,i,z,e1,e2,hq,r⟩ hs=>x_v va sl pins s σ H x y v u Q I rx ry ⟨p,xs,i,z,e1,e2,hq.up,r⟩ hs
theorem z_i:IxR X (rIxT KN):=fun va sl pins s σ H x y v u Q I rx ry ⟨p,xs,i,z,e1,e2,hq,r⟩ hs=>x_w va sl pins s σ H x y v u Q I rx ry ⟨p,xs,i,z,e1,e2,hq.up,r⟩ hs
theorem LenV.up{K:PySem.W.Frag}{x:V}{H:Hp}{n:Nat}(h:LenV KN x H n):LenV K x H n:=by
 cases x with
 | ref p =>
  rcases (show (∃ xs,SqL KN H p xs/\n=xs.length)\/∃ xs,SqT KN H p xs/\n=xs.length from h) with ⟨xs,a,b⟩ | ⟨xs,a,b⟩
  ·exact .inl ⟨xs,a.up,b⟩
  ·exact .inr ⟨xs,a.up,b⟩
 | _=>exact h
theorem TruV.up{K:PySem.W.Frag}{x:V}{H:Hp}{k:Bool}(h:TruV KN x H k):TruV K x H k:=by
 cases x with
 | ref p =>
  rcases (show (∃ xs,SqL KN H p xs/\k = !xs.isEmpty)\/(∃ xs,SqT KN H p xs/\k = !xs.isEmpty)\/∃ kvs,H p=some (.dK kvs)/\k = !kvs.isEmpty from h) with ⟨xs,a,b⟩ | ⟨xs,a,b⟩ | c
  ·exact .inl ⟨xs,a.up,b⟩
  ·exact .inr (.inl ⟨xs,a.up,b⟩)
  ·exact .inr (.inr c)
 | _=>exact h
theorem z_s:CallR X (.builtin "len") (fun xs H Q=>∃ x n,xs=[x]/\LenV KN x H n/\Q (.int n) H):=fun pins s σ H xs us Q I r ⟨x,n,e,l,q⟩=>w_e pins s σ H xs us Q I r ⟨x,n,e,l.up,q⟩
theorem x_r:CallR X (.type "list") (fun xs H Q=>∃ p ys,xs=[.ref p]/\(SqL KN H p ys\/SqT KN H p ys)/\∀ l,H l=none->Q (.ref l) (upd H l (.lst ys))):=fun pins s σ H xs us Q I r ⟨p,ys,e,l,q⟩ =>
 r_z pins s σ H xs us Q I r ⟨p,ys,e,l.imp (·.up) (·.up),q⟩
theorem m_y:CallR X (.builtin "all") (fun xs H Q=>X.calm=true/\∃ (p:Addr) (bs:List Bool),xs=[.ref p]/\SqL KN H p (bs.map V.bl)/\Q (.bl (bs.all id)) H):=fun pins s σ H xs us Q I r ⟨c,p,bs,e,l,q⟩ =>
 call_all pins s σ H xs us Q I r ⟨c,p,bs,e,l.up,q⟩
theorem Turn.up{P:Program}{w:World}{K:PySem.W.Frag}{tg:Expr}{J J':It}{fp:List Addr}{it:Addr}{tn:Nat->Heap->Prop}(t:Turn P w K tg J fp it tn)(g:∀ i H,J'.go i H->J.go i H)(d:∀ i H,J'.stop i H->J.stop i H)
  (y:∀ i H x H',J.yld i H x H'->J'.yld i H x H'):Turn P w K tg J' fp it tn where
 mem:=t.mem
 obj:=t.obj
 keep:=t.keep
 item:=fun X a b c e i pins s σ H E I f n q=>thn (t.item X a b c e i pins s σ H E I f n (g _ _ q)) fun r s1 ⟨u,h1,h2⟩=>⟨u,h1,thn h2 fun _ s2 ⟨x,H',I',r',y',z⟩=>⟨x,H',I',r',y _ _ _ _ y',z⟩⟩
 done:=fun X a b c e i pins s σ H E I f n q=>t.done X a b c e i pins s σ H E I f n (d _ _ q)
 self:=t.self
def cl(t:TE):TE:=fun σ H Q=>∃ R,t σ H R/\∀ x H',R x H'->Q x H'
def cla(t:TA):TA:=fun σ H Q=>∃ R,t σ H R/\∀ x H',R x H'->Q x H'
theorem PE.cl{e:Expr}{t:TE}(h:PE X e t):PE X e (cl t):=fun pins s σ H Q I ⟨R,q,m⟩=>thn (h pins s σ H R I q) fun v s' ⟨x,H',I',r,z⟩=>⟨x,H',I',r,m _ _ z⟩
theorem PA.cl{es:List Expr}{t:TA}(h:PA X es t):PA X es (cla t):=fun pos pins s σ H Q I ⟨R,q,m⟩=>thn (h pos pins s σ H R I q) fun v s' ⟨x,H',I',r,z⟩=>⟨x,H',I',r,m _ _ z⟩
theorem PE.wk0{e:Expr}{t t':TE}(h:PE X e t)(m:∀ σ H Q,t' σ H Q->t σ H Q):PE X e t':=fun pins s σ H Q I q=>h pins s σ H Q I (m _ _ _ q)
theorem PI.weak{tg l:Expr}{wi wi':TI}(h:PI X tg l wi)
  (m:∀ σ H R,wi' σ H R->wi σ H fun J0 H1=>∃ J1,((∀ i H,J1.go i H->J0.go i H)/\(∀ i H,J1.stop i H->J0.stop i H)/\∀ i H x H',J0.yld i H x H'->J1.yld i H x H')/\R J1 H1):PI X tg l wi':=fun pins s σ H R I q =>
 thn (h pins s σ H _ I (m _ _ _ q)) fun v s1 z=>thn z fun itv s2 z=>by
  obtain ⟨it,fp,tn,J,H',e,I',t,n,f,J1,⟨g,d,y⟩,r⟩:=z
  exact ⟨it,fp,tn,J1,H',e,I',t.up g d y,n,f,r⟩
theorem y_p{tg l:Expr}{tl:TE}(hl:PE X l tl):PI X tg l (iList KN tl):=(k_f hl.cl).weak fun σ H R q=>⟨_,q,fun x H1 ⟨a,e,⟨xs,z⟩,r⟩=>⟨a,e,⟨xs,z.up⟩,Itl KN a,
 ⟨fun i H ⟨xs,x,u,v⟩=>⟨xs,x,u.up,v⟩,fun i H ⟨xs,u,v⟩=>⟨xs,u.up,v⟩,fun i H x H' ⟨u,v⟩=>⟨u,fun xs z=>v xs z.up⟩⟩,r⟩⟩
theorem s_c{tg l:Expr}{tl:TE}(hl:PE X l tl):PI X tg l (iTup KN tl):=(pi_tup hl.cl).weak fun σ H R q=>⟨_,q,fun x H1 ⟨a,e,⟨xs,z⟩,r⟩=>⟨a,e,⟨xs,z.up⟩,Itt KN a,
 ⟨fun i H ⟨xs,x,u,v⟩=>⟨xs,x,u.up,v⟩,fun i H ⟨xs,u,v⟩=>⟨xs,u.up,v⟩,fun i H x H' ⟨u,v⟩=>⟨u,fun xs z=>v xs z.up⟩⟩,r⟩⟩
theorem pi_zip0{elts:List Expr}{kk:Nat}{tpos:Pos}{a b:Expr}{ta:TA}{p pos:Pos}(hg:Gl X "zip")(hm:X.mg "zip" = none)(ha:PA X [a,b] ta)(hs:starEach [a,b] X.env=[(false,eval a X.env),(false,eval b X.env)]:=by rfl)(hs2:starEach [b] X.env=[(false,eval b X.env)]:=by rfl) :
  PI X (.Tuple elts kk tpos) (.Call (.Name "zip" p) [a,b] [] pos) (iZip KN ta):=(pi_zip hg hm ha.cl hs hs2).weak fun σ H R q=>⟨_,q,fun x H1 ⟨a,b,e,⟨xs,z⟩,⟨ys,z'⟩,r⟩=>⟨a,b,e,⟨xs,z.up⟩,⟨ys,z'.up⟩,Itz KN a b,
 ⟨fun i H ⟨xs,ys,x,y,u,u',v⟩=>⟨xs,ys,x,y,u.up,u'.up,v⟩,fun i H ⟨xs,ys,u,u',v⟩=>⟨xs,ys,u.up,u'.up,v⟩,fun i H x H' ⟨p,x',y',u,v,w,f,g⟩=>⟨p,x',y',u,v,w,fun xs z=>f xs z.up,fun ys z=>g ys z.up⟩⟩,r⟩⟩
theorem y_n{a:Expr}{ta:TE}(ha:PE X a ta)(he:∀ whole,isTrue a X.env whole=(do let v <-whole;standAt a.pos;holding [v] (truthy v))) :
  PT X a (fun σ H Q=>ta σ H fun x H'=>∃ k,TruV KN x H' k/\Q k H'):=fun pins s σ H Q I q=>t_e ha.cl he pins s σ H Q I ⟨_,q,fun x H' ⟨k,t,z⟩=>⟨k,t.up,z⟩⟩
theorem tyV.up{K:PySem.W.Frag}{T:String}{x:V}{H:Hp}(h:tyV KN T x H):tyV K T x H:=by
 cases x with
 | ref p =>
  rcases (show (T = "list" /\ ∃ xs,SqL KN H p xs)\/(T = "tuple" /\ ∃ o,KN.lookup p=some o/\o.cls = .type "tuple" /\ o.dict=none)\/(T = "dict" /\ ((∃ kvs,H p=some (.dK kvs))\/∃ kvs,H p=some (.dT kvs)))\/(T = "set" /\ ∃ S n,H p=some (.set S n)) from h) with ⟨a,xs,b⟩ | ⟨_,o,e,_⟩ | c
  ·exact .inl ⟨a,xs,b.up⟩
  ·exact nomatch (show (none:Option Obj)=some o from e)
  ·exact .inr (.inr c)
 | _=>exact h
variable {o e:Expr} {es:List Expr} {to:TE} {t:TA} {name:Str} {apos cpos:Pos} {T id:String} {r:V->List V->Hp->VK->Prop}
theorem q_q(pa:PlainAttrs T)(slot:Slot T name id)(hty:typeOf (.builtin id)=pure (.type "method_descriptor"))(hm:MtR X id r)(ho:PE X o to)(ha:PA X (e::es) t)
  (hbase:attributeBase o name X.env (eval o X.env)=eval o X.env:=by rfl)
  (hfew:((backTo cpos (starEach (e::es) X.env)).all (fun x=>!x.1)&&(backToKw cpos (keywordEach [] X.env)).all (fun x=>x.1.isSome)
   && decide ((e::es).length+([]:List Keyword).length+(if ([]:List Keyword).isEmpty then 0 else 1)<30))=true:=by rfl)
  (hline:(apos.endLine == cpos.line)=true:=by rfl) (hs:starEach (e::es) X.env=(false,eval e X.env)::starEach es X.env:=by rfl) (hplain:(backTo cpos (starEach es X.env)).any (·.1)=false:=by rfl) :
  PE X (.Call (.Attribute o name apos) (e::es) [] cpos) (tBM KN T r to t):=(pe_bm pa slot hty hm ho.cl ha hbase hfew hline hs hplain).wk0 fun σ H Q q=>⟨_,q,fun x H1 z=>⟨z.1.up,z.2⟩⟩
theorem x_a{pos:Pos}{es:List Expr}{k:Nat}{t:TGs}{n:Nat}(hc:X.calm=true)(h:PGs X es t)
  (hn:(assignEach es X.env).length=n:=by rfl) (hst:(assignEach es X.env).findIdx? (·.1)=none:=by rfl):PG X (.Tuple es k pos) (gTup KN n t):=fun pins s σ H v u Q I r ⟨a,xs,e,hq,z⟩=>pg_tup hc h hn hst pins s σ H v u Q I r ⟨a,xs,e,hq.up,z⟩
end
theorem x_q{P:List Value->Prop}{n:Nat}(h:∀ a us,us.length=n->P (a::us)):∀ us:List Value,us.length=n+1->P us
 | [],e=>nomatch e
 | a::us,e=>h a us (Nat.succ.inj e)
theorem l_p{P:List Value->Prop}(h:P []):∀ us:List Value,us.length=0->P us
 | [],_=>h
 | _::_,e=>nomatch e
def onI(f:Int->Int):V->V
 | .int e=>.int (f e)
 | v=>v
end L2
namespace L2
open PySem PySem.Spec PyProof.Rows
end L2
namespace L2
open PySem PySem.Spec PyProof.Rows
end L2
namespace L2
open PySem PySem.Spec PyProof.Rows
end L2
namespace L2
open PySem PySem.Spec PyProof.Rows
end L2
namespace L2
open PySem PySem.Spec PyProof.Rows
def sdL(n:Nat):List Nat:=(List.range n).map fun k=>(((List.range (2^n)).filter fun s=>decide (bt s k=1)).map fun s=>2^s).sum
theorem k_p{n:Nat}:(sdL n).length=n:=by unfold sdL;simp
end L2
namespace L2
end L2
namespace L2
open PySem PySem.Spec PyProof.Rows
open PySem
def bothO:Option Nat->Option Nat->Option Nat
 | some x,some y=>some (x&&&y)
 | _,_=>none
def rhsV(giv:Nat->Option Nat)(L:Nat)(gs:List (Nat×Nat))(hi:Nat)(V:Nat->Option Nat)(e:Nat):Option Nat :=
 match giv e with
 | some w=>some w
 | none=>if L<e/2 then (if e%2=1 then (V (e-1)).map (hi ^^^ ·) else match gs[e/2-L-1]? with
  | some p=>bothO (V p.1) (V p.2)
  | none=>none) else none
def GtO(L:Nat)(gs:List (Nat×Nat)):Prop:=∀ (k:Nat) (p:Nat×Nat),gs[k]? = some p->p.1<2*(1+L+k)/\p.2<2*(1+L+k)
def fvF(giv:Nat->Option Nat)(L:Nat)(gs:List (Nat×Nat))(hi:Nat):Nat->Nat->Option Nat
 | 0,_=>none
 | k+1,e=>rhsV giv L gs hi (fvF giv L gs hi k) e
section
variable {giv:Nat->Option Nat} {L:Nat} {gs:List (Nat×Nat)} {hi:Nat}
theorem q_u(hg:GtO L gs){V V':Nat->Option Nat}{e:Nat}(h:∀ d,d<e->V d=V' d):rhsV giv L gs hi V e=rhsV giv L gs hi V' e:=by
 unfold rhsV
 cases giv e with
 | some w=>rfl
 | none =>
  by_cases c:L<e/2
  ·simp only [if_pos c]
   by_cases d:e%2=1
   ·simp only [if_pos d]
    rw [h (e-1) (by lia)]
   ·simp only [if_neg d]
    cases hq:gs[e/2-L-1]? with
    | none=>rfl
    | some p =>
     obtain ⟨h1,h2⟩:=hg _ _ hq
     show bothO (V p.1) (V p.2)=bothO (V' p.1) (V' p.2)
     rw [h p.1 (by lia),h p.2 (by lia)]
  ·simp only [if_neg c]
theorem p_p(hg:GtO L gs):∀ {k e:Nat},e<k->fvF giv L gs hi k e=fvF giv L gs hi (e+1) e
 | 0,e,h=>absurd h (Nat.not_lt_zero _)
 | k+1,e,h=>by
  show rhsV giv L gs hi (fvF giv L gs hi k) e=rhsV giv L gs hi (fvF giv L gs hi e) e
  exact q_u hg fun d hd=>by
   rw [p_p hg (show d<k by lia),p_p hg (show d<e from hd)]
def gvW(giv:Nat->Option Nat)(L:Nat)(gs:List (Nat×Nat))(hi e:Nat):Option Nat:=fvF giv L gs hi (e+1) e
theorem gvW_eq(hg:GtO L gs)(e:Nat):gvW giv L gs hi e=rhsV giv L gs hi (gvW giv L gs hi) e:=by
 show rhsV giv L gs hi (fvF giv L gs hi e) e=_
 exact q_u hg fun d hd=>p_p hg hd
theorem gvW_giv(hg:GtO L gs){e w:Nat}(h:giv e=some w):gvW giv L gs hi e=some w:=by
 rw [gvW_eq hg]
 unfold rhsV
 rw [h]
theorem o_s(hg:GtO L gs){e:Nat}{p:Nat×Nat}(h:giv e=none)(hl:L<e/2)(ho:¬e%2=1)(hp:gs[e/2-L-1]? = some p):gvW giv L gs hi e=bothO (gvW giv L gs hi p.1) (gvW giv L gs hi p.2):=by
 rw [gvW_eq hg]
 unfold rhsV
 rw [h]
 simp only [if_pos hl,if_neg ho,hp]
end
def hiW(m:Nat):Nat:=2^2^m-1
def gkL(R:Nat->Nat)(hi:Nat)(zs:List (Nat×Nat)):List (Nat×Nat):=(0,0)::(1,hi)::zs.flatMap fun p=>[(R p.1,p.2),(R p.1^^^1,hi^^^p.2)]
def lkN(E:List (Nat×Nat))(x:Nat):Option Nat:=(E.find? fun p=>decide (p.1=x)).map Prod.snd
def Dst(R:Nat->Nat)(ls:List Nat):Prop:=(∀ e∈ls,R e/2≠0)/\(ls.map fun e=>R e/2).Nodup
instance (R:Nat->Nat) (ls:List Nat):Decidable (Dst R ls):=inferInstanceAs (Decidable (_/\_))
def givS(R:Nat->Nat)(ls:List Nat)(e:Nat):Option Nat:=lkN (gkL R (hiW ls.length) (ls.zip (sdL ls.length))) (R e)
def valS(R:Nat->Nat)(L:Nat)(gs:List (Nat×Nat))(ls:List Nat)(e:Nat):Option Nat:=gvW (givS R ls) L gs (hiW ls.length) e
def goodS(R:Nat->Nat)(L:Nat)(gs:List (Nat×Nat))(a b:Nat)(ls:List Nat):Bool:=decide (ls.length<=6/\Dst R ls/\valS R L gs ls a≠none/\valS R L gs ls a=valS R L gs ls b)
theorem lkN_none{E:List (Nat×Nat)}{x:Nat}:lkN E x=none↔∀ p∈E,p.1≠x:=by
 unfold lkN
 rw [Option.map_eq_none_iff,List.find?_eq_none]
 simp
def gI(gs:List (Nat×Nat)):List (Int×Int):=gs.map fun p=>((p.1:Int),(p.2:Int))
def belN(L:Nat)(gs:List (Nat×Nat))(e:Nat):List Nat:=if e%2=1 then [e-1] else match gs[e/2-L-1]? with
 | some p=>[p.1,p.2]
 | none=>[]
def CloS(giv:Nat->Option Nat)(L:Nat)(gs:List (Nat×Nat))(n a b:Nat):Prop:=∃ S0:List Nat,S0.length<=60/\a∈S0/\b∈S0/\∀ e∈S0,e<2*n/\(giv e=none->L<e/2->∀ d∈belN L gs e,d∈S0)
theorem ClsAt.lst{C o l:Addr}{J:Hp}{n:Nat}{R:Nat->Nat}(c:ClsAt C J o l n R):(∃ L,J l=some (.lst (w_z L)))/\∃ x,J o=some x:=by
 obtain ⟨⟨dx,h1⟩,L,h2,u,h3⟩:=c
 exact ⟨⟨L,h2⟩,_,h1⟩
open PySem
structure Wlk(ins K n:Nat)(p t:Nat->Nat):Prop where
 sh:∀ k,k<=ins->p k=t k
 lt:∀ k,ins<k->k<K->p k<t k
 pi:∀ j k,j<K->k<K->p j=p k->j=k
 pt:∀ j k,j<K->ins<k->k<K->p j≠t k
 ti:∀ j k,ins<j->j<K->ins<k->k<K->t j=t k->j=k
 tn:∀ k,k<K->t k<n
 p0:p 0=0
def rk(ins:Nat)(p t:Nat->Nat)(j x:Nat):Nat:=match (List.range j).find? fun k=>decide (ins<k/\t k=x) with
 | some k=>p k
 | none=>x
def rE(ins:Nat)(p t:Nat->Nat)(j e:Nat):Nat:=2*rk ins p t j (e/2)+e%2
def eM(p:Nat->Nat)(e:Nat):Nat:=2*p (e/2)+e%2
section
variable {ins K n:Nat} {p t:Nat->Nat}
theorem o_b{j x:Nat}(h:∀ k,k<j->ins<k->t k≠x):rk ins p t j x=x:=by
 unfold rk
 rw [List.find?_eq_none.mpr fun k hk=>by
  have:=h k (List.mem_range.mp hk)
  simp only [decide_eq_true_eq]
  exact fun q=>this q.1 q.2]
theorem n_c(W:Wlk ins K n p t){j k:Nat}(hj:j<=K)(hk:k<j)(hi:ins<k):rk ins p t j (t k)=p k:=by
 unfold rk
 cases e:(List.range j).find? fun m=>decide (ins<m/\t m=t k) with
 | none =>
  have:=List.find?_eq_none.mp e k (List.mem_range.mpr hk)
  simp [hi] at this
 | some m =>
  have h1:=List.find?_some e
  have h2:=List.mem_range.mp (List.mem_of_find?_eq_some e)
  simp only [decide_eq_true_eq] at h1
  have:=W.ti m k h1.1 (by lia) hi (by lia) h1.2
  subst this
  rfl
theorem n_b(W:Wlk ins K n p t){j:Nat}(hj:j<=K)(x:Nat):(∃ k,k<j/\ins<k/\t k=x/\rk ins p t j x=p k)\/((∀ k,k<j->ins<k->t k≠x)/\rk ins p t j x=x):=by
 by_cases h:∃ k,k<j/\ins<k/\t k=x
 ·obtain ⟨k,h1,h2,rfl⟩:=h
  exact .inl ⟨k,h1,h2,rfl,n_c W hj h1 h2⟩
 ·have h':∀ k,k<j->ins<k->t k≠x:=fun k a b c=>h ⟨k,a,b,c⟩
  exact .inr ⟨h',o_b h'⟩
theorem n_a:rE ins p t (ins+1)=id:=by
 funext e
 unfold rE
 rw [o_b fun k h1 h2=>by lia]
 show 2*(e/2)+e%2=e
 lia
theorem rE_p(W:Wlk ins K n p t){j e:Nat}(hj:j<=K)(he:e/2<K):rE ins p t j (eM p e)=eM p e:=by
 have h1:eM p e/2=p (e/2):=by unfold eM;lia
 have h2:eM p e%2=e%2:=by unfold eM;lia
 unfold rE
 rw [h1,h2,o_b fun k a b=>Ne.symm (W.pt _ k he b (by lia))]
 rfl
theorem rE_t(W:Wlk ins K n p t){j e:Nat}(hj:j<=K)(he:e/2<j):rE ins p t j (eM t e)=eM p e:=by
 have h1:eM t e/2=t (e/2):=by unfold eM;lia
 have h2:eM t e%2=e%2:=by unfold eM;lia
 unfold rE
 rw [h1,h2]
 by_cases c:ins<e/2
 ·rw [n_c W hj he c]
  rfl
 ·rw [o_b fun k a b q=>W.pt (e/2) k (by lia) b (by lia) (by rw [W.sh _ (by lia)];exact q.symm),<-W.sh _ (by lia)]
  rfl
theorem rE_new(W:Wlk ins K n p t){m:Nat}(hm:m<K)(hi:ins<m):rE ins p t m (2*t m)=2*t m:=by
 unfold rE
 rw [show 2*t m/2=t m by lia,show 2*t m%2=0 by lia,o_b fun k a b q=>by
  have:=W.ti k m b (by lia) hi hm q
  lia]
 rfl
theorem p_o{x:Nat}:(2*x)^^^1=2*x+1:=p_n
theorem rE_join(W:Wlk ins K n p t){m:Nat}(hm:m<K)(hi:ins<m):jn (rE ins p t m) (2*p m) (2*t m)=rE ins p t (m+1):=by
 funext e
 unfold jn
 rw [p_o,p_o]
 have key:rk ins p t (m+1) (e/2)=if e/2=t m then p m else rk ins p t m (e/2):=by
  by_cases c:e/2=t m
  ·rw [if_pos c,c,n_c W (by lia) (Nat.lt_succ_self m) hi]
  ·rw [if_neg c]
   rcases n_b W (j:=m) (by lia) (e/2) with ⟨k,h1,h2,h3,h4⟩ | ⟨h1,h2⟩
   ·rw [h4,<-h3,n_c W (by lia) (by lia) h2]
   ·rw [h2,o_b fun k a b=>?_]
    by_cases d:k=m
    ·subst d;exact Ne.symm c
    ·exact h1 k (by lia) b
 have hne:e/2≠t m->rk ins p t m (e/2)≠t m:=fun c=>by
  rcases n_b W (j:=m) (by lia) (e/2) with ⟨k,h1,h2,h3,h4⟩ | ⟨h1,h2⟩
  ·rw [h4];exact W.pt k m (by lia) hi hm
  ·rw [h2];exact c
 unfold rE
 rw [key]
 by_cases c:e/2=t m
 ·have h5:rk ins p t m (e/2)=t m:=by rw [c];exact o_b fun k a b q=>by have:=W.ti k m b (by lia) hi hm q;lia
  rw [if_pos c,h5]
  rcases (show e%2=0\/e%2=1 by lia) with h | h
  ·rw [if_pos (by lia)];lia
  ·rw [if_neg (by lia),if_pos (by lia)];lia
 ·have:=hne c
  rw [if_neg c,if_neg (by lia),if_neg (by lia)]
def lvs(A B:Nat):List Nat:=(if A/2=0 then [] else [A])++(if B/2=0\/B/2=A/2 then [] else [B])
theorem s_w{A B x:Nat}(h:x∈lvs A B):(x=A\/x=B)/\x/2≠0:=by
 unfold lvs at h
 rcases List.mem_append.mp h with h | h
 ·split at h
  ·cases h
  ·rename_i c;rw [List.mem_singleton.mp h];exact ⟨.inl rfl,c⟩
 ·split at h
  ·cases h
  ·rename_i c;rw [List.mem_singleton.mp h];exact ⟨.inr rfl,fun q=>c (.inl q)⟩
theorem l_t(A B:Nat):(lvs A B).length<=2:=by
 unfold lvs
 rw [List.length_append]
 split<;>split<;>simp
theorem lvs_dst{R:Nat->Nat}{A B:Nat}(ha:R A=A)(hb:R B=B):Dst R (lvs A B):=by
 refine ⟨fun e he=>?_,?_⟩
 ·obtain ⟨h1,h2⟩:=s_w he
  rcases h1 with rfl | rfl
  ·rw [ha];exact h2
  ·rw [hb];exact h2
 ·unfold lvs
  by_cases c:A/2=0
  ·rw [if_pos c]
   split
   ·exact .nil
   ·exact List.pairwise_singleton _ _
  ·rw [if_neg c]
   by_cases d:B/2=0\/B/2=A/2
   ·rw [if_pos d];exact List.pairwise_singleton _ _
   ·rw [if_neg d]
    show [R A/2,R B/2].Nodup
    rw [ha,hb]
    refine .cons (fun x hx=>?_) (List.pairwise_singleton _ _)
    rw [List.mem_singleton.mp hx]
    exact fun q=>d (.inr q.symm)
theorem l_s{A B:Nat}:(A/2=0\/A∈lvs A B)/\(B/2=0\/∃ y∈lvs A B,y/2=B/2):=by
 unfold lvs
 refine ⟨?_,?_⟩
 ·by_cases c:A/2=0
  ·exact .inl c
  ·rw [if_neg c];exact .inr (List.mem_append_left _ (List.mem_singleton.mpr rfl))
 ·by_cases c:B/2=0
  ·exact .inl c
  ·by_cases d:B/2=A/2
   ·refine .inr ⟨A,List.mem_append_left _ ?_,d.symm⟩
    rw [if_neg (by lia)]
    exact List.mem_singleton.mpr rfl
   ·refine .inr ⟨B,List.mem_append_right _ ?_,rfl⟩
    rw [if_neg (fun q=>q.elim c d)]
    exact List.mem_singleton.mpr rfl
theorem t_b{E:List (Nat×Nat)}{q:Nat×Nat}(h:q∈E):lkN E q.1≠none:=fun e=>lkN_none.mp e q h rfl
theorem t_a{R:Nat->Nat}{ls:List Nat}{e y:Nat}(h:R e/2=0\/(y∈ls/\R y/2=R e/2)):givS R ls e≠none:=by
 unfold givS
 rcases h with h | ⟨hy,h⟩
 ·rcases (show R e=0\/R e=1 by lia) with q | q
  ·rw [q];exact t_b (q:=(0,0)) List.mem_cons_self
  ·rw [q];exact t_b (q:=(1,hiW ls.length)) (List.mem_cons_of_mem _ List.mem_cons_self)
 ·obtain ⟨i,hi⟩:=List.getElem?_of_mem hy
  have hil:=(List.getElem?_eq_some_iff.mp hi).1
  have hw:(sdL ls.length)[i]? = some ((sdL ls.length)[i]'(by rw [k_p];exact hil)):=List.getElem?_eq_getElem _
  generalize (sdL ls.length)[i]'(by rw [k_p];exact hil)=w at hw
  have hz:(y,w)∈ls.zip (sdL ls.length):=List.mem_of_getElem? (List.getElem?_zip_eq_some.mpr ⟨hi,hw⟩)
  have hin:∀ q∈[(R y,w),(R y^^^1,hiW ls.length^^^w)],q∈gkL R (hiW ls.length) (ls.zip (sdL ls.length)):=fun q hq=>by
   unfold gkL
   exact List.mem_cons_of_mem _ (List.mem_cons_of_mem _ (List.mem_flatMap.mpr ⟨(y,w),hz,hq⟩))
  have hc:R e=R y\/R e=R y^^^1:=by
   have h1:=w_j (R y)
   have h2:=cx_ne (R y)
   lia
  rcases hc with q | q
  ·rw [q];exact t_b (q:=(R y,w)) (hin _ List.mem_cons_self)
  ·rw [q];exact t_b (q:=(R y^^^1,hiW ls.length^^^w)) (hin _ (List.mem_cons_of_mem _ List.mem_cons_self))
theorem o_r{R:Nat->Nat}{ls:List Nat}{e:Nat}(h0:R e/2≠0)(h:∀ y∈ls,R y/2≠R e/2):givS R ls e=none:=by
 unfold givS
 refine lkN_none.mpr fun q hq z=>?_
 unfold gkL at hq
 rcases List.mem_cons.mp hq with rfl | hq
 ·have:(0:Nat)=R e:=z
  lia
 rcases List.mem_cons.mp hq with rfl | hq
 ·have:(1:Nat)=R e:=z
  lia
 obtain ⟨x,hx,hq⟩:=List.mem_flatMap.mp hq
 obtain ⟨y,w⟩:=x
 have hy:=h y (List.of_mem_zip hx).1
 simp only [List.mem_cons,List.not_mem_nil,or_false] at hq
 have hd:=w_j (R y)
 rcases hq with rfl | rfl
 ·have:R y=R e:=z
  lia
 ·have:R y^^^1=R e:=z
  lia
theorem n_i(x y:Option Nat):bothO x y=bothO y x:=by
 cases x<;>cases y<;>try rfl
 show some _=some _
 rw [Nat.and_comm]
theorem l_j{R:Nat->Nat}{ls:List Nat}{e d:Nat}(h:R e=R d):givS R ls e=givS R ls d:=by
 unfold givS
 rw [h]
theorem k_v(W:Wlk ins K n p t){L:Nat}{gs:List (Nat×Nat)}(hG:GtO L gs)(hn:n=1+L+gs.length){m a b:Nat}(hm:m<K)(hi:ins<m)(ha:a/2<m)(hb:b/2<m)(lp:L<p m)
  (g1:gs[p m-L-1]? = some (eM p a,eM p b)) (g2:gs[t m-L-1]? = some (eM t b,eM t a)):goodS (rE ins p t m) L gs (2*p m) (2*t m) (lvs (eM p a) (eM p b))=true/\CloS (givS (rE ins p t m) (lvs (eM p a) (eM p b))) L gs n (2*p m) (2*t m):=by
 have lt:=W.lt m hi hm
 have tn:=W.tn m hm
 have RA:=rE_p W (j:=m) (e:=a) (by lia) (by lia)
 have RB:=rE_p W (j:=m) (e:=b) (by lia) (by lia)
 have RTa:=rE_t W (j:=m) (e:=a) (by lia) ha
 have RTb:=rE_t W (j:=m) (e:=b) (by lia) hb
 have Rp:rE ins p t m (2*p m)=2*p m:=by
  have:=rE_p W (j:=m) (e:=2*m) (by lia) (by lia)
  unfold eM at this
  rw [show 2*m/2=m by lia,show 2*m%2=0 by lia] at this
  exact this
 have Rt:=rE_new W hm hi
 obtain ⟨g11,g12⟩:=hG _ _ g1
 have g11:eM p a<2*p m:=by have:eM p a<2*(1+L+(p m-L-1)):=g11;lia
 have g12:eM p b<2*p m:=by have:eM p b<2*(1+L+(p m-L-1)):=g12;lia
 obtain ⟨g21,g22⟩:=hG _ _ g2
 have g21:eM t b<2*t m:=by have:eM t b<2*(1+L+(t m-L-1)):=g21;lia
 have g22:eM t a<2*t m:=by have:eM t a<2*(1+L+(t m-L-1)):=g22;lia
 have GA:givS (rE ins p t m) (lvs (eM p a) (eM p b)) (eM p a)≠none:=by
  rcases (l_s (A:=eM p a) (B:=eM p b)).1 with h | h
  ·exact t_a (y:=0) (.inl (by rw [RA];exact h))
  ·exact t_a (.inr ⟨h,rfl⟩)
 have GB:givS (rE ins p t m) (lvs (eM p a) (eM p b)) (eM p b)≠none:=by
  rcases (l_s (A:=eM p a) (B:=eM p b)).2 with h | ⟨y,hy,h⟩
  ·exact t_a (y:=0) (.inl (by rw [RB];exact h))
  ·refine t_a (.inr ⟨hy,?_⟩)
   rw [RB]
   rcases (s_w hy).1 with rfl | rfl
   ·rw [RA];exact h
   ·rw [RB]
 have GTa:=l_j (ls:=lvs (eM p a) (eM p b)) (RTa.trans RA.symm)
 have GTb:=l_j (ls:=lvs (eM p a) (eM p b)) (RTb.trans RB.symm)
 have lvR:∀ y∈lvs (eM p a) (eM p b),rE ins p t m y/2<p m:=fun y hy=>by
  rcases (s_w hy).1 with rfl | rfl
  ·rw [RA];lia
  ·rw [RB];lia
 have Np:givS (rE ins p t m) (lvs (eM p a) (eM p b)) (2*p m)=none:=o_r (by rw [Rp];lia) fun y hy=>by
  have:=lvR y hy
  rw [Rp];lia
 have Nt:givS (rE ins p t m) (lvs (eM p a) (eM p b)) (2*t m)=none:=o_r (by rw [Rt];lia) fun y hy=>by
  have:=lvR y hy
  rw [Rt];lia
 generalize hls:lvs (eM p a) (eM p b)=ls at *
 have VA:∀ {e:Nat},givS (rE ins p t m) ls e≠none->valS (rE ins p t m) L gs ls e=givS (rE ins p t m) ls e:=fun {e} h=>by
  cases hw:givS (rE ins p t m) ls e with
  | none=>exact absurd hw h
  | some w=>exact gvW_giv hG hw
 have vp:valS (rE ins p t m) L gs ls (2*p m)=bothO (givS (rE ins p t m) ls (eM p a)) (givS (rE ins p t m) ls (eM p b)):=by
  have:=o_s (hi:=hiW ls.length) hG Np (by lia) (by lia) (by rw [show 2*p m/2-L-1=p m-L-1 by lia];exact g1)
  rw [<-VA GA,<-VA GB]
  exact this
 have vt:valS (rE ins p t m) L gs ls (2*t m)=bothO (givS (rE ins p t m) ls (eM p b)) (givS (rE ins p t m) ls (eM p a)):=by
  have:=o_s (hi:=hiW ls.length) hG Nt (by lia) (by lia) (by rw [show 2*t m/2-L-1=t m-L-1 by lia];exact g2)
  rw [<-GTa,<-GTb,<-VA (by rw [GTb];exact GB),<-VA (by rw [GTa];exact GA)]
  exact this
 refine ⟨decide_eq_true ⟨?_,?_,?_,?_⟩,?_⟩
 ·rw [<-hls]
  exact Nat.le_trans (l_t _ _) (by decide)
 ·rw [<-hls]
  exact lvs_dst RA RB
 ·rw [vp]
  cases hx:givS (rE ins p t m) ls (eM p a) with
  | none=>exact absurd hx GA
  | some x =>
   cases hy:givS (rE ins p t m) ls (eM p b) with
   | none=>exact absurd hy GB
   | some y=>nofun
 ·rw [vp,vt,n_i]
 ·refine ⟨[2*p m,2*t m,eM p a,eM p b,eM t b,eM t a],by show 6<=60;decide,by simp,by simp,fun e he=>?_⟩
  simp only [List.mem_cons,List.not_mem_nil,or_false] at he
  have bp:belN L gs (2*p m)=[eM p a,eM p b]:=by
   unfold belN
   rw [if_neg (by lia),show 2*p m/2-L-1=p m-L-1 by lia,g1]
  have bt':belN L gs (2*t m)=[eM t b,eM t a]:=by
   unfold belN
   rw [if_neg (by lia),show 2*t m/2-L-1=t m-L-1 by lia,g2]
  rcases he with rfl | rfl | rfl | rfl | rfl | rfl
  ·refine ⟨by lia,fun _ _ d hd=>?_⟩
   rw [bp] at hd
   simp only [List.mem_cons,List.not_mem_nil,or_false] at hd ⊢
   rcases hd with rfl | rfl<;>simp
  ·refine ⟨by lia,fun _ _ d hd=>?_⟩
   rw [bt'] at hd
   simp only [List.mem_cons,List.not_mem_nil,or_false] at hd ⊢
   rcases hd with rfl | rfl<;>simp
  ·exact ⟨by lia,fun h=>absurd h GA⟩
  ·exact ⟨by lia,fun h=>absurd h GB⟩
  ·exact ⟨by lia,fun h=>absurd h (by rw [GTb];exact GB)⟩
  ·exact ⟨by lia,fun h=>absurd h (by rw [GTa];exact GA)⟩
end
open PySem
def k1(A B:Wk)(x:Nat):Nat:=if x<=A.ins+A.boxes.length then x else x+B.boxes.length
def k2(A B:Wk)(x:Nat):Nat:=if x<=A.ins then x else if x<=A.ins+B.boxes.length then x+A.boxes.length else x+A.boxes.length+A.gates.length
def kn(W:Wk)(x:Nat):Nat:=if x<=W.ins+W.boxes.length then x else x+W.ins
theorem eM_div(f:Nat->Nat)(e:Nat):eM f e/2=f (e/2):=by unfold eM;lia
theorem eM_mod(f:Nat->Nat)(e:Nat):eM f e%2=e%2:=by unfold eM;lia
theorem s_u(f g:Nat->Nat)(e:Nat):eM f (eM g e)=eM (fun x=>f (g x)) e:=by
 show 2*f (eM g e/2)+eM g e%2=_
 rw [eM_div,eM_mod]
 rfl
theorem F1_nat(A B:Wk)(e:Nat):F1 A B (e:Int)=((eM (k1 A B) e:Nat):Int):=by
 unfold F1 leF eM k1
 split
 ·rw [if_neg (by lia)];lia
 ·split<;>rw [if_pos (by lia)]<;>lia
theorem F2_nat(A B:Wk)(e:Nat):F2 A B (e:Int)=((eM (k2 A B) e:Nat):Int):=by
 unfold F2 leF eM k2
 split
 ·rw [if_neg (by lia),if_neg (by lia)];lia
 ·split
  ·rw [if_neg (by lia),if_pos (by lia)];lia
  ·rw [if_pos (by lia)];lia
theorem q_i(W:Wk)(e:Nat):neF W (e:Int)=((eM (kn W) e:Nat):Int):=by
 unfold neF eM kn
 split
 ·rw [if_pos (by lia)];lia
 ·rw [if_neg (by lia)];lia
structure Twn(A B:Wk)(tw:Nat->Nat):Prop where
 ins:B.ins=A.ins
 bl:B.boxes.length=A.boxes.length
 lo:∀ k,k<A.first->tw k=k
 hi:∀ j,j<A.gates.length->A.first+j<=tw (A.first+j)/\tw (A.first+j)<A.first+B.gates.length
 mo:∀ i j,i<j->j<A.gates.length->tw (A.first+i)<tw (A.first+j)
 gt:∀ (j a b:Nat),A.gates[j]? = some ((a:Int),(b:Int))->B.gates[tw (A.first+j)-A.first]? = some (((eM tw b:Nat):Int),((eM tw a:Nat):Int))
 bx:∀ (k:Nat) (f:Int) (e:Nat),A.boxes[k]? = some (f,(e:Int))->B.boxes[k]? = some (f,((eM tw e:Nat):Int))
 ot:∀ (k e:Nat),A.outs[k]? = some (e:Int)->B.outs[k]? = some ((eM tw e:Nat):Int)
 ol:B.outs.length=A.outs.length
section
variable {A B:Wk} {tw:Nat->Nat}
theorem Wk.first_is(A:Wk):A.first=1+A.ins+A.boxes.length:=rfl
theorem Wk.knots_is(A:Wk):A.knots=1+A.ins+A.boxes.length+A.gates.length:=rfl
theorem Twn.case(T:Twn A B tw){k:Nat}(hk:k<A.knots):(k<A.first/\tw k=k)\/(A.first<=k/\k<=tw k/\tw k<A.first+B.gates.length):=by
 by_cases c:k<A.first
 ·exact .inl ⟨c,T.lo k c⟩
 ·obtain ⟨j,rfl⟩:∃ j,k=A.first+j:=⟨k-A.first,by lia⟩
  have h1:=A.knots_is
  have h2:=A.first_is
  have:=T.hi j (by lia)
  exact .inr ⟨by lia,this.1,this.2⟩
theorem Twn.inj(T:Twn A B tw){j k:Nat}(hj:j<A.knots)(hk:k<A.knots)(e:tw j=tw k):j=k:=by
 have h1:=A.knots_is
 have h2:=A.first_is
 rcases T.case hj with ⟨a1,a2⟩ | ⟨a1,a2,a3⟩<;>rcases T.case hk with ⟨b1,b2⟩ | ⟨b1,b2,b3⟩
 ·lia
 ·lia
 ·lia
 ·obtain ⟨x,rfl⟩:∃ x,j=A.first+x:=⟨j-A.first,by lia⟩
  obtain ⟨y,rfl⟩:∃ y,k=A.first+y:=⟨k-A.first,by lia⟩
  rcases Nat.lt_trichotomy x y with q | q | q
  ·have:=T.mo x y q (by lia);lia
  ·rw [q]
  ·have:=T.mo y x q (by lia);lia
theorem Twn.now(T:Twn A B tw):Wlk A.ins A.knots (nB A B) (k1 A B) (fun k=>k2 A B (tw k)):=by
 have h1:=A.knots_is
 have h2:=A.first_is
 have h3:=T.bl
 refine ⟨fun k hk=>?_,fun k hi hk=>?_,fun j k hj hk e=>?_,fun j k hj hi hk=>?_,fun j k ij hj ik hk e=>?_,fun k hk=>?_,?_⟩
 ·show k1 A B k=k2 A B (tw k)
  rw [T.lo k (by lia)]
  unfold k1 k2
  rw [if_pos (by lia),if_pos hk]
 ·show k1 A B k<k2 A B (tw k)
  unfold k1 k2
  rcases T.case hk with ⟨a1,a2⟩ | ⟨a1,a2,a3⟩
  ·rw [a2,if_pos (by lia),if_neg (by lia),if_pos (by lia)];lia
  ·rw [if_neg (by lia),if_neg (by lia),if_neg (by lia)];lia
 ·unfold k1 at e
  split at e<;>split at e<;>lia
 ·show k1 A B j≠k2 A B (tw k)
  unfold k1 k2
  rcases T.case hk with ⟨a1,a2⟩ | ⟨a1,a2,a3⟩
  ·rw [a2,if_neg (show ¬k<=A.ins by lia),if_pos (show k<=A.ins+B.boxes.length by lia)]
   split<;>lia
  ·rw [if_neg (show ¬tw k<=A.ins by lia),if_neg (show ¬tw k<=A.ins+B.boxes.length by lia)]
   split<;>lia
 ·have e':k2 A B (tw j)=k2 A B (tw k):=e
  refine T.inj hj hk ?_
  have c1:A.ins<tw j:=by rcases T.case hj with ⟨a1,a2⟩ | ⟨a1,a2,a3⟩<;>lia
  have c2:A.ins<tw k:=by rcases T.case hk with ⟨a1,a2⟩ | ⟨a1,a2,a3⟩<;>lia
  unfold k2 at e'
  rw [if_neg (show ¬tw j<=A.ins by lia),if_neg (show ¬tw k<=A.ins by lia)] at e'
  split at e'<;>split at e'<;>lia
 ·show k2 A B (tw k)<nB A B
  unfold k2 nB
  rcases T.case hk with ⟨a1,a2⟩ | ⟨a1,a2,a3⟩
  ·rw [a2]
   split
   ·lia
   ·rw [if_pos (by lia)];lia
  ·rw [if_neg (by lia),if_neg (by lia)];lia
 ·show k1 A B 0=0
  unfold k1
  rw [if_pos (Nat.zero_le _)]
theorem kn_mono{W:Wk}{x y:Nat}(h:x<y):kn W x<kn W y:=by
 unfold kn
 split<;>split<;>lia
theorem Wlk.through{ins K n n':Nat}{p t f:Nat->Nat}(w:Wlk ins K n p t)(mo:∀ x y,x<y->f x<f y)(hf:∀ x,x<n->f x<n')(h0:f 0=0):Wlk ins K n' (fun k=>f (p k)) (fun k=>f (t k)):=by
 have inj:∀ {x y},f x=f y->x=y:=fun {x y} h=>by
  rcases Nat.lt_trichotomy x y with q | q | q
  ·have:=mo _ _ q;lia
  ·exact q
  ·have:=mo _ _ q;lia
 exact ⟨fun k hk=>congrArg f (w.sh k hk),fun k a b=>mo _ _ (w.lt k a b),fun j k a b e=>w.pi j k a b (inj e),fun j k a b c e=>w.pt j k a b c (inj e),fun j k a b c d e=>w.ti j k a b c d (inj e),fun k hk=>hf _ (w.tn k hk),by show f (p 0)=0;rw [w.p0];exact h0⟩
def nG(ps:List (Int×Int)):List (Nat×Nat):=ps.map fun p=>(p.1.toNat,p.2.toNat)
theorem o_w(ps:List (Int×Int)):(nG ps).length=ps.length:=List.length_map _
theorem gI_nG{n:Nat}{ps:List (Int×Int)}(h:GateOk n ps):gI (nG ps)=ps:=by
 unfold gI nG
 rw [List.map_map]
 refine (List.map_congr_left fun p hp=>?_).trans (List.map_id ps)
 obtain ⟨k,hk⟩:=List.getElem?_of_mem hp
 obtain ⟨⟨a,_⟩,b,_⟩:=h k p hk
 show (((p.1.toNat:Nat):Int),((p.2.toNat:Nat):Int))=p
 rw [Int.toNat_of_nonneg a,Int.toNat_of_nonneg b]
theorem nG_gt{L:Nat}{ps:List (Int×Int)}(h:GateOk (1+L) ps):GtO L (nG ps):=fun k p hp=>by
 unfold nG at hp
 rw [List.getElem?_map] at hp
 obtain ⟨q,hq,rfl⟩:=Option.map_eq_some_iff.mp hp
 have:=h k q hq
 exact ⟨by show q.1.toNat<_;lia,by show q.2.toNat<_;lia⟩
theorem nG_get{ps:List (Int×Int)}{k a b:Nat}(h:ps[k]? = some ((a:Int),(b:Int))):(nG ps)[k]? = some (a,b):=by
 unfold nG
 rw [List.getElem?_map,h]
 rfl
theorem m_r{j a b:Nat}(h:A.gates[j]? = some ((a:Int),(b:Int))):(bes A B).gates[j]? = some (((eM (k1 A B) a:Nat):Int),((eM (k1 A B) b:Nat):Int)):=by
 have hj:=(List.getElem?_eq_some_iff.mp h).1
 show (gt (two A B))[j]? = _
 unfold gt two
 rw [List.flatMap_cons,List.getElem?_append_left (by rw [List.length_map];exact hj),List.getElem?_map,h]
 show some (F1 A B (a:Int),F1 A B (b:Int))=_
 rw [F1_nat,F1_nat]
theorem m_s{i a b:Nat}(h:B.gates[i]? = some ((a:Int),(b:Int))):(bes A B).gates[A.gates.length+i]? = some (((eM (k2 A B) a:Nat):Int),((eM (k2 A B) b:Nat):Int)):=by
 have hj:=(List.getElem?_eq_some_iff.mp h).1
 show (gt (two A B))[A.gates.length+i]? = _
 unfold gt two
 rw [List.flatMap_cons,List.getElem?_append_right (by rw [List.length_map];exact Nat.le_add_right _ _),List.length_map,Nat.add_sub_cancel_left,List.flatMap_cons,List.getElem?_append_left (by rw [List.length_map];exact hj),List.getElem?_map,h]
 show some (F2 A B (a:Int),F2 A B (b:Int))=_
 rw [F2_nat,F2_nat]
theorem o_g{j e:Nat}{f:Int}(h:A.boxes[j]? = some (f,(e:Int))):(bes A B).boxes[j]? = some (f,((eM (k1 A B) e:Nat):Int)):=by
 have hj:=(List.getElem?_eq_some_iff.mp h).1
 show (bx (two A B))[j]? = _
 unfold bx two
 rw [List.flatMap_cons,List.getElem?_append_left (by rw [List.length_map];exact hj),List.getElem?_map,h]
 show some (f,F1 A B (e:Int))=_
 rw [F1_nat]
theorem o_h{j e:Nat}{f:Int}(h:B.boxes[j]? = some (f,(e:Int))):(bes A B).boxes[A.boxes.length+j]? = some (f,((eM (k2 A B) e:Nat):Int)):=by
 have hj:=(List.getElem?_eq_some_iff.mp h).1
 show (bx (two A B))[A.boxes.length+j]? = _
 unfold bx two
 rw [List.flatMap_cons,List.getElem?_append_right (by rw [List.length_map];exact Nat.le_add_right _ _),List.length_map,Nat.add_sub_cancel_left,List.flatMap_cons,List.getElem?_append_left (by rw [List.length_map];exact hj),List.getElem?_map,h]
 show some (f,F2 A B (e:Int))=_
 rw [F2_nat]
theorem Twn.next(T:Twn A B tw):Wlk A.ins A.knots (1+(2*A.ins+(A.boxes.length+B.boxes.length))+2*(A.gates.length+B.gates.length)) (fun k=>kn (bes A B) (k1 A B k)) (fun k=>kn (bes A B) (k2 A B (tw k))) :=
 T.now.through (fun x y h=>kn_mono h) (fun x hx=>by
  have hi:(bes A B).ins=A.ins:=rfl
  unfold kn
  unfold nB at hx
  rw [hi]
  split<;>lia) (by unfold kn;rw [if_pos (Nat.zero_le _)])
theorem l_w(T:Twn A B tw)(ok:(bes A B).Ok){j a b:Nat}(h:A.gates[j]? = some ((a:Int),(b:Int)))(hab:a/2<A.first+j/\b/2<A.first+j) :
  goodS (rE A.ins (fun k=>kn (bes A B) (k1 A B k)) (fun k=>kn (bes A B) (k2 A B (tw k))) (A.first+j)) (2*A.ins+(A.boxes.length+B.boxes.length)) (nG (y_b (bes A B)++y_a (bes A B))) (2*kn (bes A B) (k1 A B (A.first+j))) (2*kn (bes A B) (k2 A B (tw (A.first+j)))) (lvs (eM (fun k=>kn (bes A B) (k1 A B k)) a) (eM (fun k=>kn (bes A B) (k1 A B k)) b))=true /\
  CloS (givS (rE A.ins (fun k=>kn (bes A B) (k1 A B k)) (fun k=>kn (bes A B) (k2 A B (tw k))) (A.first+j)) (lvs (eM (fun k=>kn (bes A B) (k1 A B k)) a) (eM (fun k=>kn (bes A B) (k1 A B k)) b))) (2*A.ins+(A.boxes.length+B.boxes.length)) (nG (y_b (bes A B)++y_a (bes A B))) (1+(2*A.ins+(A.boxes.length+B.boxes.length))+2*(A.gates.length+B.gates.length)) (2*kn (bes A B) (k1 A B (A.first+j))) (2*kn (bes A B) (k2 A B (tw (A.first+j)))):=by
 have h1:=A.knots_is
 have h2:=A.first_is
 have h3:=T.bl
 have hj:=(List.getElem?_eq_some_iff.mp h).1
 have hi:=T.hi j hj
 have hb:=w_y A B
 have hgl:=v_v A B
 have hin:(bes A B).ins=A.ins:=rfl
 have nl:(y_b (bes A B)).length=A.gates.length+B.gates.length:=by unfold y_b;rw [List.length_map,hgl]
 have tl:(y_a (bes A B)).length=A.gates.length+B.gates.length:=by unfold y_a;rw [List.length_map,hgl]
 have e1:kn (bes A B) (k1 A B (A.first+j))=A.first+j+B.boxes.length+A.ins:=by unfold kn k1;rw [if_neg (show ¬A.first+j<=A.ins+A.boxes.length by lia),if_neg (by lia),hin]
 have e2:kn (bes A B) (k2 A B (tw (A.first+j)))=tw (A.first+j)+A.boxes.length+A.gates.length+A.ins:=by unfold kn k2;rw [if_neg (show ¬tw (A.first+j)<=A.ins by lia),if_neg (show ¬tw (A.first+j)<=A.ins+B.boxes.length by lia),if_neg (by lia),hin]
 have nowG:∀ {i x y:Nat},(bes A B).gates[i]? = some ((x:Int),(y:Int))->(nG (y_b (bes A B)++y_a (bes A B)))[i]? = some (eM (kn (bes A B)) x,eM (kn (bes A B)) y):=fun {i x y} hx=>by
  have hil:=(List.getElem?_eq_some_iff.mp hx).1
  refine nG_get ?_
  rw [List.getElem?_append_left (by rw [nl];lia)]
  unfold y_b
  rw [List.getElem?_map,hx]
  show some (neF (bes A B) (x:Int),neF (bes A B) (y:Int))=_
  rw [q_i,q_i]
 refine k_v T.next (L:=2*A.ins+(A.boxes.length+B.boxes.length)) (gs:=nG (y_b (bes A B)++y_a (bes A B))) (by have:=nextOk ok;rw [hb,hin] at this;exact nG_gt this) (by rw [o_w,List.length_append,nl,tl];lia) (by lia) (by lia) hab.1 hab.2 (by show _<kn (bes A B) (k1 A B (A.first+j));lia) ?_ ?_
 ·show (nG (y_b (bes A B)++y_a (bes A B)))[kn (bes A B) (k1 A B (A.first+j))-(2*A.ins+(A.boxes.length+B.boxes.length))-1]? = some (eM (fun k=>kn (bes A B) (k1 A B k)) a,eM (fun k=>kn (bes A B) (k1 A B k)) b)
  rw [e1,show A.first+j+B.boxes.length+A.ins-(2*A.ins+(A.boxes.length+B.boxes.length))-1=j by lia]
  have:=nowG (m_r (B:=B) h)
  rw [s_u,s_u] at this
  exact this
 ·show (nG (y_b (bes A B)++y_a (bes A B)))[kn (bes A B) (k2 A B (tw (A.first+j)))-(2*A.ins+(A.boxes.length+B.boxes.length))-1]? = some (eM (fun k=>kn (bes A B) (k2 A B (tw k))) b,eM (fun k=>kn (bes A B) (k2 A B (tw k))) a)
  rw [e2,show tw (A.first+j)+A.boxes.length+A.gates.length+A.ins-(2*A.ins+(A.boxes.length+B.boxes.length))-1=A.gates.length+(tw (A.first+j)-A.first) by lia]
  have:=nowG (m_s (A:=A) (T.gt j a b h))
  rw [s_u,s_u,s_u,s_u] at this
  exact this
end
open PySem
theorem gI_len(gs:List (Nat×Nat)):(gI gs).length=gs.length:=List.length_map _
theorem PrsR.lenS{H:Hp}{g:Addr}{rs:List Addr}{gs:List (Nat×Nat)}(h:PrsR H g rs (gI gs)):rs.length=gs.length:=by rw [Paired.length h.2,gI_len]
theorem w_c{s rest:TS}{D:Ends}{σ:St}{H:Hp}(M:St->Hp->Prop)(h:∀ R:Ends,(∀ σ J,M σ J->R.nx σ J)->s R σ H)(h2:∀ σ J,M σ J->rest D σ J):tSeq s rest D σ H:=h { D with nx:=rest D } h2
end L2
namespace L2
open PySem PySem.Spec PyProof.Rows
open AutoSeq1 (wpAny_loadPart')
section
variable {prog:Program} {w:World} {A:Around} {E:Value->Shared->Prop} {s:Shared}
theorem n_y{it t:Addr}{i:Nat}{items}{x:Value}{Q:Value->Shared->Prop}(hit:s.heap.IsTupleIter it t i)(ht:s.heap.IsTuple t items)(hx:items[i]? = some x)
  (hQ:∀ h',h'.IsTupleIter it t (i+1)->Heap.SameBut it s.heap h'->Q x { s with heap:=h' }):wpAny (model prog w) A (Builtin.SmallTypes.nextOf (.ref it)) Q E s:=by
 obtain ⟨o,ho,hc,hd⟩:=id hit
 obtain ⟨ol,hol,_,nl,hdl⟩:=ht
 unfold Builtin.SmallTypes.nextOf
 refine wpAny_bind (wpAny_callSpecial?_slot (name:=Str.ofString "__next__") hit.typeIs PySem.F.slot_tuple_iterator_next
  (wpAny_call_entry PySem.F.slot_tuple_iterator_next hit.typeIs PySem.F.entry_tuple_iterator_next ?_ (PySem.F.args_tuple_iterator_next_1 _)))
 show wpAny _ _ (field (.ref it) 0 >>= _) _ _ s
 refine wpAny_bind (wpAny_field ho hd (x:=.ref t) rfl ?_)
 show wpAny _ _ (if (Value.ref t == Value.none)=true then _ else _) _ _ s
 rw [if_neg (show ¬((Value.ref t == Value.none)=true) from Bool.false_ne_true)]
 show wpAny _ _ (field (.ref it) 1 >>= _) _ _ s
 refine wpAny_bind (wpAny_field ho hd (x:=.int i 0) rfl ?_)
 show wpAny _ _ (seqItems? (.ref t) >>= _) _ _ s
 refine wpAny_bind (wpAny_seqItems hol hdl ?_)
 simp only [Int.toNat_natCast,hx]
 refine wpAny_bind (wpAny_setField ho hd (by simp) (wpAny_pure ⟨x,rfl,wpAny_pure (hQ _ ?_ (Heap.SameBut.update ..))⟩))
 exact ⟨_,Heap.get?_update_self _ ho (Obj.isFreed_of_fields (Obj.data_mapFields hd _)),(Obj.cls_mapFields ..).trans hc,by rw [Obj.data_mapFields hd];simp [rawInt]⟩
theorem s_m{it t:Addr}{i:Nat}{items}{Q:Value->Shared->Prop}(hh:A.handled=none)(hit:s.heap.IsTupleIter it t i)(ht:s.heap.IsTuple t items)(hx:items[i]? = none)
  (hE:∀ h' e,Heap.ExtBut it s.heap h'->(∃ o,h'.get? e=some o/\o.cls = .type "StopIteration")->E (.ref e) { s with heap:=h' }):wpAny (model prog w) A (Builtin.SmallTypes.nextOf (.ref it)) Q E s:=by
 obtain ⟨o,ho,hc,hd⟩:=id hit
 obtain ⟨ol,hol,_,nl,hdl⟩:=ht
 unfold Builtin.SmallTypes.nextOf
 refine wpAny_bind (wpAny_callSpecial?_slot (name:=Str.ofString "__next__") hit.typeIs PySem.F.slot_tuple_iterator_next
  (wpAny_call_entry PySem.F.slot_tuple_iterator_next hit.typeIs PySem.F.entry_tuple_iterator_next ?_ (PySem.F.args_tuple_iterator_next_1 _)))
 show wpAny _ _ (field (.ref it) 0 >>= _) _ _ s
 refine wpAny_bind (wpAny_field ho hd (x:=.ref t) rfl ?_)
 show wpAny _ _ (if (Value.ref t == Value.none)=true then _ else _) _ _ s
 rw [if_neg (show ¬((Value.ref t == Value.none)=true) from Bool.false_ne_true)]
 show wpAny _ _ (field (.ref it) 1 >>= _) _ _ s
 refine wpAny_bind (wpAny_field ho hd (x:=.int i 0) rfl ?_)
 show wpAny _ _ (seqItems? (.ref t) >>= _) _ _ s
 refine wpAny_bind (wpAny_seqItems hol hdl ?_)
 simp only [Int.toNat_natCast,hx]
 refine wpAny_bind (wpAny_rule (wpAny_bind (wpAny_setField ho hd (by simp) ?_)))
 show wpAny _ _ (newExc (.type "StopIteration") [] >>= _) _ _ _
 refine wpAny_bind ?_
 simp only [newExc,newTuple]
 refine wpAny_bind (wpAny_newObj_type ?_ (by size_fits))
 refine wpAny_bind (m:=firstArgMember _ _) (wpAny_of_eq (a:=Value.none) (by first | rfl | (simp only [firstArgMember];rfl)) ?_)
 refine wpAny_newObj_type ?_ (by size_fits)
 simp only [raiseNew]
 refine wpAny_bind (wpAny_handled ?_)
 first | rw [show A.in1.handled=none from hh] | rw [hh]
 refine wpAny_bind (wpAny_pure (wpAny_throw ?_))
 exact hE _ _ (((Heap.SameBut.update ..).extBut.push _).push _) ⟨_,Heap.get?_push_size _ rfl,rfl⟩
end
theorem q_e{prog:Program}{w:World}{A:Around}(hh:A.handled=none)(it t:Addr)(hne:t≠it)(items:Array Value):Draws prog w A it [it,t] items.size (fun i v=>items[i]? = some v) (fun i h=>h.IsTupleIter it t i/\h.IsTuple t items) where
 live:=fun _ _ st=>let ⟨o,ho,_⟩:=st.1;⟨o,ho⟩
 frame:=fun _ _ _ st hk=>⟨st.1.at fun o e=>hk it (by simp) o e,st.2.at fun o e=>hk t (by simp) o e⟩
 item:=fun i s Q E hi st hQ=>by
  refine n_y st.1 st.2 (x:=items[i]) (by simp [hi]) fun h' hit' hs'=>?_
  exact hQ _ h' s.toks (by simp [hi]) ⟨hit',st.2.at fun o e=>hs'.extBut t o hne e⟩ hs'
 done:=fun s Q E st hE=>s_m hh st.1 st.2 (by simp) hE
set_option maxHeartbeats 1000000 in
theorem p_r(l:Addr)(items:Array Value)(n:Nat)(dct:Option Addr)(sl:Array (Option Value)) :
  Meets (Builtin.«enumerate.__new__» ⟨[.type "enumerate",.ref l],[]⟩) (fun _ R s=>s.heap.get? l=some { cls:=.type "tuple",dict:=dct,data:=.seq items n,slots:=sl } /\
   R (.ok (.ret (.ref (s.heap.push { cls:=.type "tuple_iterator",data:=.fields #[.ref l,.int 0 0] }).objs.size)))
    { s with heap:=(s.heap.push { cls:=.type "tuple_iterator",data:=.fields #[.ref l,.int 0 0] }).push { cls:=.type "enumerate",data:=.fields #[.none,.bool false,.ref s.heap.objs.size,rawInt 0,.none,.none] } }) :=
 .of_wp fun prog w A R s h=>by
  obtain ⟨hp,g,d,tk,os⟩:=s;obtain ⟨hl,h⟩:=h
  have hsub:=sub_enumerate
  have hL:Heap.IsTuple (Shared.heap ⟨hp,g,d,tk,os⟩) l items:=⟨_,hl,rfl,n,rfl⟩
  wp_walk using wpAny_loadPart' hl
  refine wpAny_stack_any fun st=>wpAny_pure ?_
  split
  ·rename_i c _ _ _ _ _
   cases (c == Value.type "enumerate")
   ·wp_walk using wpAny_loadPart' hl,wpAny_pyIter_tuple hL
    exact ⟨_,rfl,h⟩
   ·wp_walk using wpAny_loadPart' hl,wpAny_pyIter_tuple hL
    exact ⟨_,rfl,h⟩
  ·wp_walk using wpAny_loadPart' hl,wpAny_pyIter_tuple hL
   exact ⟨_,rfl,h⟩
theorem n_j{prog:Program}{w:World}{A:Around}{E:Value->Shared->Prop}{s:Shared}{l:Addr}{items:Array Value}{Q:Value->Shared->Prop}(hL:s.heap.IsTuple l items)
  (h:∀ h',IsEnum h' (s.heap.objs.size+1) s.heap.objs.size 0 .none->h'.IsTupleIter s.heap.objs.size l 0->h'.objs.size=s.heap.objs.size+2 ->
   (∀ b o,s.heap.get? b=some o->h'.get? b=some o)->Q (.ref (s.heap.objs.size+1)) { s with heap:=h' }):wpAny (model prog w) A (call (.type "enumerate") [.ref l]) Q E s:=by
 obtain ⟨⟨c,dct,dt,sl⟩,hl,hc,n,hd⟩:=hL
 replace hc:c = .type "tuple" := hc
 replace hd:dt = .seq items n:=hd
 subst hc hd
 refine callType_new PySem.F.called_enumerate (by decide) (PySem.F.typeCall_enumerate_1 _) (PySem.F.newCall_enumerate_1 _) (fun obj=>PySem.F.args_object_init_2 obj _) PySem.F.entry_enumerate_new (p_r l items n dct sl) ⟨hl,?_⟩
 have hz:(s.heap.push { cls:=.type "tuple_iterator",data:=.fields #[.ref l,.int 0 0] }).objs.size=s.heap.objs.size+1:=Heap.size_push ..
 show _/\_
 rw [hz]
 have he:IsEnum ((s.heap.push { cls:=.type "tuple_iterator",data:=.fields #[.ref l,.int 0 0] }).push
   { cls:=.type "enumerate",data:=.fields #[.none,.bool false,.ref s.heap.objs.size,rawInt 0,.none,.none] }) (s.heap.objs.size+1) s.heap.objs.size 0 .none:=by
  have:=Heap.get?_push_size (s.heap.push { cls:=.type "tuple_iterator",data:=.fields #[.ref l,.int 0 0] })
   (o:={ cls:=.type "enumerate",data:=.fields #[.none,.bool false,.ref s.heap.objs.size,rawInt 0,.none,.none] }) rfl
  rw [hz] at this;exact this
 refine ⟨⟨_,he,rfl⟩,h _ he ⟨_,Heap.get?_push_of_some _ (Heap.get?_push_size _ rfl),rfl,rfl⟩ (by rw [Heap.size_push,hz]) fun b o x=>Heap.get?_push_of_some _ (Heap.get?_push_of_some _ x)⟩
def Itet(K : PySem.W.Frag)(a : Addr) : It :=
  ⟨fun i H => ∃ xs x, SqT K H a xs /\ xs[i]? = some x,
   fun i H v H' => ∃ p x, v = .ref p /\ H p = none /\ H' = upd H p (.tup [.int (i : Int), x]) /\ ∀ xs, SqT K H a xs -> xs[i]? = some x,
   fun i H => ∃ xs, SqT K H a xs /\ i = xs.length⟩
theorem m_m{P:Program}{w:World}{K:PySem.W.Frag}{elts:List Expr}{kk:Nat}{pos:Pos}(a e it:Addr)(hne:e≠it) :
  Turn P w K (.Tuple elts kk pos) (Itet K a) [e,it] e (fun i h=>(∃ old,IsEnum h e it (i:Int) old)/\h.IsTupleIter it a i) where
 mem:=by simp
 obj:=fun i h st c hc=>by
  obtain ⟨⟨old,h1⟩,⟨o4,e4,c4,d4⟩⟩:=st
  have hc':c=e\/c=it:=by simpa using hc
  rcases hc' with rfl | rfl
  ·exact ⟨_,h1,fun v q=>by cases q⟩
  ·exact ⟨o4,e4,fun v q=>by rw [d4] at q;cases q⟩
 keep:=fun i h h' st k=>by
  obtain ⟨⟨old,h1⟩,h2⟩:=st
  exact ⟨⟨old,k e (by simp) _ h1⟩,h2.at fun o q=>k it (by simp) o q⟩
 item:=by
  intro X hP hw hK hc i pins s σ H E I hf st hg
  subst hP hw hK
  obtain ⟨xs,x,hq,hx⟩:=hg
  obtain ⟨its,rv,p1,hz1⟩:=I.tuple hq
  obtain ⟨u1,hu1,ru1⟩:=rv.get hx
  obtain ⟨⟨old,se⟩,si⟩:=st
  have hl1:=rv.length
  have hil:=(List.getElem?_eq_some_iff.mp hx).1
  have hai:a≠it:=fun q=>by
   obtain ⟨o,ho,hc1,_⟩:=si
   obtain ⟨o2,ho2,hc2,_⟩:=p1
   rw [q,ho] at ho2
   cases ho2
   rw [hc1] at hc2
   injection hc2 with hc2
   exact absurd hc2 (by decide)
  have hea:e∉[it,a]:=fun q=>by
   have q':e=it\/e=a:=by simpa using q
   rcases q' with q | q
   ·exact hne q
   ·obtain ⟨o2,ho2,hc2,_⟩:=p1
    rw [<-q,se] at ho2
    cases ho2
    injection hc2 with hc2
    exact absurd hc2 (by decide)
  refine wpAny_pyNext_enum_itemD (q_e (A:=X.A.in1) (show X.A.in1.handled=none from I.ok.hd hc) it a hai its.toArray) se ⟨si,p1⟩ (by simp;lia) hne hea fun v h' tk hv b1 b2 b3 b4 hk=>?_
  have hv':v=u1:=by
   have:its[i]? = some v:=by simpa using hv
   rw [hu1] at this
   exact (Option.some.inj this).symm
  subst hv'
  have lt:∀ {c o},s.heap.get? c=some o->c≠s.heap.objs.size:=fun z=>Nat.ne_of_lt (Heap.lt_size z)
  have I0:Inv X pins σ (upd H s.heap.objs.size (.tup [.int (i:Int),x])) { s with heap:=s.heap.push { cls:=.type "tuple",data:=.seq #[.int i tk,v] },toks:=tk+1 } :=
   I.laid (a:=s.heap.objs.size) (o:=.tup [.int (i:Int),x]) (t':=tk+1) (fun b u z=>Heap.get?_push_of_some _ z) (Nat.le_refl _) ⟨zl2,[.int i tk,v],.cons ⟨_,rfl⟩ (.cons ru1 .nil),_,Heap.get?_push_size _ rfl,rfl,_,rfl⟩
  have hnone:∀ c∈[e,it],(upd H s.heap.objs.size (.tup [.int (i:Int),x])) c=none:=fun c hc'=>by
   have hne':c≠s.heap.objs.size:=by
    have hc'':c=e\/c=it:=by simpa using hc'
    rcases hc'' with rfl | rfl
    ·exact lt se
    ·obtain ⟨_,z,_⟩:=si;exact lt z
   rw [z_m hne']
   exact (hf c hc').1
  have hf':∀ c∈[e,it],FpOk X pins (upd H s.heap.objs.size (.tup [.int (i:Int),x])) c:=fun c hc'=>⟨hnone c hc',(hf c hc').2⟩
  have kk1:∀ c o,c∉[e,it]->(s.heap.push { cls:=.type "tuple",data:=.seq #[.int i tk,v] }).get? c=some o->h'.get? c=some o:=fun c o hn z=>by
   rcases Heap.get?_push_cases z with ⟨rfl,rfl⟩ | z'
   ·exact b3
   ·exact hk c o (fun q=>hn (by simp [q])) (fun q=>hn (by simp [q])) z'
  have I1:=I0.turnedL (h':=h') (t':=tk+1) (ch:=[e,it]) kk1 hf'
  refine ⟨_,rfl,wpAny_letOwnedTupleGo_enum b1 fun h2 c1 c2=>?_⟩
  have I2:=I1.turnedL (h':=h2) (t':=tk+1) (ch:=[e]) (fun c o hn z=>(c2.2 c (fun q=>hn (by simp [q]))).trans z) (fun c hc'=>hf' c (by rw [List.mem_singleton.mp hc'];simp))
  refine ⟨.ref s.heap.objs.size,_,I2,rfl,⟨_,x,rfl,I.hok.fresh (Nat.le_refl _),rfl,fun xs' q=>by rw [I.tuple_inj q hq];exact hx⟩,⟨⟨v,?_⟩,b2.1.at fun o z=>(c2.2 it (Ne.symm hne)).trans z⟩,hnone⟩
  rw [show ((i+1:Nat):Int)=(i:Int)+1 by lia]
  exact c1
 done:=by
  intro X hP hw hK hc i pins s σ H E I hf st hg
  subst hP hw hK
  obtain ⟨xs,hq,hx⟩:=hg
  obtain ⟨its,rv,p1,hz1⟩:=I.tuple hq
  have l1:=rv.length
  obtain ⟨⟨old,se⟩,si⟩:=st
  have hai:a≠it:=fun q=>by
   obtain ⟨o,ho,hc1,_⟩:=si
   obtain ⟨o2,ho2,hc2,_⟩:=p1
   rw [q,ho] at ho2
   cases ho2
   rw [hc1] at hc2
   injection hc2 with hc2
   exact absurd hc2 (by decide)
  obtain ⟨f0,f1,f2,f3,f4,f5⟩:=hf it (by simp)
  have hi:i=its.toArray.size:=by simp;lia
  rw [hi] at si
  exact wpAny_pyNext_enum_endD (q_e (A:=X.A.in1) (show X.A.in1.handled=none from I.ok.hd hc) it a hai its.toArray) se ⟨si,p1⟩ fun h' eb=>⟨rfl,I.turned (t':=s.toks) (fun b o hb z=>eb b o hb z) f0 f1 f3 f4 f5⟩
 self:=fun _ _ _ _ _ st h=>by
  obtain ⟨⟨old,h1⟩,_⟩:=st
  exact wpAny_pyIter_enum h1 h
def iEnumT(K:PySem.W.Frag)(ta:TA):TI:=fun σ H R=>ta σ H fun vs H1=>∃ a,vs=[.ref a]/\(∃ xs,SqT K H1 a xs)/\R (Itet K a) H1
theorem r_h{X:Cx}{elts:List Expr}{kk:Nat}{tpos:Pos}{a:Expr}{ta:TA}{p pos:Pos}(hg:Gl X "enumerate")(hm:X.mg "enumerate" = none)(ha:PA X [a] ta)(hs:starEach [a] X.env=[(false,eval a X.env)]:=by rfl) :
  PI X (.Tuple elts kk tpos) (.Call (.Name "enumerate" p) [a] [] pos) (iEnumT X.K ta):=by
 intro pins s σ H R I h
 refine Call_ (v_o I hg hm PyProof.Rows.boot_enumerate (PyProof.Rows.callWith_type1 (thn (ha pos pins s σ H _ I h) fun us s1 ⟨vs,H1,I1,r1,q1⟩=>?_) hs rfl))
 obtain ⟨l1,e,⟨xs,hq1⟩,q⟩:=q1
 subst e
 cases r1 with
 | cons r rr =>
  cases rr
  cases r
  obtain ⟨its1,rv1,p1,hz1⟩:=I1.tuple hq1
  refine n_j p1 fun h' he hit hsz hk=>wpAny_pyIter_enum he ?_
  refine ⟨_,[s1.heap.objs.size+1,s1.heap.objs.size],_,_,H1,rfl,I1.kept (t':=s1.toks) hk,m_m l1 _ _ (Nat.succ_ne_self _),⟨⟨_,he⟩,hit⟩,fun c hc=>?_,q⟩
  have hc':c=s1.heap.objs.size+1\/c=s1.heap.objs.size:=by simpa using hc
  have hle : @LE.le Nat _ s1.heap.objs.size c:=by
   rcases hc' with rfl | rfl
   ·exact Nat.le_add_right _ _
   ·exact Nat.le_refl _
  exact I1.fpOk hle (I1.hok.fresh hle)
theorem l_i{K:PySem.W.Frag}{a:Addr}{xs:List V}{g:TG}{tb:TS}{D:Ends}{σ:St}{H:Hp}(Pv:Nat->St->Hp->Prop)(h0:Pv 0 σ H)(hl:∀ i σ H,i<=xs.length->Pv i σ H->SqT K H a xs)
  (hs:∀ i x p σ H,xs[i]? = some x->Pv i σ H->H p=none->g (.ref p) σ (upd H p (.tup [.int (i:Int),x])) fun σ2 H2=>tb { D with nx:=Pv (i+1),ct:=Pv (i+1),bk:=D.nx } σ2 H2) (hd:∀ σ H,Pv xs.length σ H->D.nx σ H) :
  ∃ W:Nat->Nat->St->Hp->Prop,(∃ m,W 0 m σ H)/\∀ i m σ H,W i m σ H ->
   ((Itet K a).stop i H/\D.nx σ H)\/((Itet K a).go i H/\∃ N:St->Hp->Prop,(∀ σ' H',N σ' H'->∃ m',m'<m/\W (i+1) m' σ' H')/\∀ x H',(Itet K a).yld i H x H'->g x σ H' fun σ2 H2=>tb { D with nx:=N,ct:=N,bk:=D.nx } σ2 H2):=by
 refine ⟨fun i m σ H=>m=xs.length-i/\i<=xs.length/\Pv i σ H,⟨xs.length,by simp,Nat.zero_le _,h0⟩,?_⟩
 rintro i m σ H ⟨rfl,hi,p⟩
 have q1:=hl i σ H hi p
 by_cases hlt:i<xs.length
 ·refine .inr ⟨⟨xs,xs[i],q1,by simp [hlt]⟩,Pv (i+1),fun σ' H' p'=>⟨xs.length-(i+1),by lia,rfl,hlt,p'⟩,fun v H' y=>?_⟩
  obtain ⟨pp,x,rfl,hp,rfl,e1⟩:=y
  exact hs i x pp σ H (e1 xs q1) p hp
 ·have e:i=xs.length:=by lia
  subst e
  exact .inl ⟨⟨xs,q1,rfl⟩,hd σ H p⟩
open PySem
theorem pairedUnmap{α β γ:Type}{R:α->β->Prop}{f:γ->β}:∀ {zs:List γ} {xs:List α},Paired R xs (zs.map f)->Paired (fun x z=>R x (f z)) xs zs
 | [],_,.nil=>.nil
 | _::_,_,.cons a b=>.cons a (pairedUnmap b)
theorem two_ex{α:Type}{l:List α}(h:l.length=2):∃ a b,l=[a,b]:=by
 obtain ⟨a,r,rfl⟩:=List.exists_cons_of_length_eq_add_one h
 obtain ⟨b,r,rfl⟩:=List.exists_cons_of_length_eq_add_one (Nat.succ.inj h)
 exact ⟨a,b,by rw [List.eq_nil_of_length_eq_zero (Nat.succ.inj (Nat.succ.inj h))]⟩
def sqO(b:Bool)(xs:List V):HO:=if b=true then .lst xs else .tup xs
theorem t_m{K:PySem.W.Frag}{ta:TA}{a:Addr}{xs:List V}{b:Bool}{g:TG}{tb:TS}{D:Ends}{σ:St}{H:Hp}(hta:∀ N:List V->Hp->Prop,N [.ref a] H->ta σ H N)(hp:H a=some (sqO b xs))(Pv:Nat->St->Hp->Prop)(h0:Pv 0 σ H)(hl:∀ i σ J,Pv i σ J->J a=some (sqO b xs))
  (hs:∀ i x p σ H,xs[i]? = some x->Pv i σ H->H p=none->g (.ref p) σ (upd H p (.tup [.int (i:Int),x])) fun σ2 H2=>tb { D with nx:=Pv (i+1),ct:=Pv (i+1),bk:=D.nx } σ2 H2) (hd:∀ σ H,Pv xs.length σ H->D.nx σ H) :
  tFor (fun σ H R=>iEnum K ta σ H R\/iEnumT K ta σ H R) g tb D σ H:=by
 cases b with
 | true=>exact .inl (hta _ ⟨a,rfl,⟨xs,SqL.of hp⟩,for_enum Pv h0 (fun i σ J _ h=>SqL.of (hl i σ J h)) hs hd⟩)
 | false=>exact .inr (hta _ ⟨a,rfl,⟨xs,SqT.of hp⟩,l_i Pv h0 (fun i σ J _ h=>SqT.of (hl i σ J h)) hs hd⟩)
theorem u_z{K:PySem.W.Frag}{te:TE}{a:Addr}{xs:List V}{b:Bool}{g:TG}{tb:TS}{D:Ends}{σ:St}{H:Hp}(hta:∀ N:V->Hp->Prop,N (.ref a) H->te σ H N)(hp:H a=some (sqO b xs))(Pv:Nat->St->Hp->Prop)(h0:Pv 0 σ H)(hl:∀ i σ J,Pv i σ J->J a=some (sqO b xs))
  (hs:∀ i x σ H,xs[i]? = some x->Pv i σ H->g x σ H fun σ2 H2=>tb { D with nx:=Pv (i+1),ct:=Pv (i+1),bk:=D.nx } σ2 H2) (hd:∀ σ H,Pv xs.length σ H->D.nx σ H) :
  tFor (fun σ H R=>iList K te σ H R\/iTup K te σ H R) g tb D σ H:=by
 cases b with
 | true=>exact .inl (hta _ ⟨a,rfl,⟨xs,SqL.of hp⟩,o_p Pv h0 (fun i σ J _ h=>SqL.of (hl i σ J h)) hs hd⟩)
 | false=>exact .inr (hta _ ⟨a,rfl,⟨xs,SqT.of hp⟩,for_tup Pv h0 (fun i σ J _ h=>SqT.of (hl i σ J h)) hs hd⟩)
theorem sq_len{K:PySem.W.Frag}{H:Hp}{a:Addr}{b:Bool}{xs:List V}(h:H a=some (sqO b xs)):LenV K (.ref a) H xs.length:=by
 cases b with
 | true=>exact .inl ⟨xs,SqL.of h,rfl⟩
 | false=>exact .inr ⟨xs,SqT.of h,rfl⟩
abbrev Stp:=Nat×Nat×List Nat
def StpR(H:Hp)(r:Addr)(s:Stp):Prop:=∃ lt,H r=some (.tup [.str "stands",.int (s.1:Int),.int (s.2.1:Int),.ref lt])/\H lt=some (.tup (w_z s.2.2))
structure StpsA(H:Hp)(p:Addr)(ss:List Stp):Prop where
 ex:∃ b rs,H p=some (sqO b (rs.map V.ref))/\Paired (fun r s=>StpR H r s) rs ss
structure PrsA(H:Hp)(p:Addr)(ps:List (Nat×Nat)):Prop where
 ex:∃ b rs,H p=some (sqO b (rs.map V.ref))/\Paired (fun r (q:Nat×Nat)=>H r=some (.tup [.int (q.1:Int),.int (q.2:Int)])) rs ps
inductive KRun (n:Nat):(Nat->Nat)->List (Nat×Nat)->(Nat->Nat)->Prop
 | nil (R:Nat->Nat):KRun n R [] R
 | cons {R R':Nat->Nat} {a b:Nat} {r:List (Nat×Nat)} (ha:a<2*n) (hb:b<2*n) (h1:R a≠R b) (h2:R a≠R b^^^1) (h:KRun n (jn R (min (R a) (R b)) (max (R a) (R b))) r R'):KRun n R ((a,b)::r) R'
inductive RunS (L n:Nat) (gs:List (Nat×Nat)):(Nat->Nat)->List Stp->(Nat->Nat)->Prop
 | nil (R:Nat->Nat):RunS L n gs R [] R
 | cons {R R':Nat->Nat} {a b:Nat} {ls:List Nat} {r:List Stp} (ha:a<2*n) (hb:b<2*n) (hl:∀ e∈ls,e<2*n) (l6:ls.length<=6) (hg:goodS R L gs a b ls=true) (hc:CloS (givS R ls) L gs n a b) (h1:R a≠R b) (h2:R a≠R b^^^1)
   (h:RunS L n gs (jn R (min (R a) (R b)) (max (R a) (R b))) r R'):RunS L n gs R ((a,b,ls)::r) R'
theorem StpsA.same{H H':Hp}{p:Addr}{ss:List Stp}(h:StpsA H p ss)(s:Same H H'):StpsA H' p ss:=by
 obtain ⟨b,rs,h1,h2⟩:=h.ex
 exact ⟨b,rs,s _ _ h1,z_t (fun r x q=>let ⟨lt,e1,e2⟩:=q;⟨lt,s _ _ e1,s _ _ e2⟩) h2⟩
theorem PrsA.same{H H':Hp}{p:Addr}{ps:List (Nat×Nat)}(h:PrsA H p ps)(s:Same H H'):PrsA H' p ps:=by
 obtain ⟨b,rs,h1,h2⟩:=h.ex
 exact ⟨b,rs,s _ _ h1,z_t (fun r x q=>s _ _ q) h2⟩
def s_j:Sp:=fun vs H Q _=>∃ (r:Addr) (q:Nat×Nat) (k:Nat),vs=[.ref r,.int (k:Int)]/\H r=some (.tup [.int (q.1:Int),.int (q.2:Int)])/\q.1<2*k/\q.2<2*k/\Q (.bl true) H
def n_f:Sp:=fun vs H Q _=>∃ (w b g o:Addr) (W:Wk),vs=[.ref w]/\IsWkA H w b g o W/\Q (.int (W.knots:Nat)) H
def x_t(C:Addr):Sp:=fun vs H Q _=>∃ (net g:Addr) (rs:List Addr) (L n:Nat) (gs:List (Nat×Nat)),vs=[.ref net]/\IsNet H net g rs (L:Int) (gI gs)/\n=1+L+gs.length/\n<=1000/\∀ o l H',H l=none->Same H H'->ClsAt C H' o l n id->Q (.ref o) H'
def StartsOk(W:Wk)(kept:List (Nat×Nat)):Prop:=∀ q∈kept,seF W (q.1:Int)=seF W (q.2:Int)/\0<=seF W (q.1:Int)/\seF W (q.1:Int)<2*((1+W.ins+W.gates.length:Nat):Int)
def NextsOk(W:Wk)(kept:List (Nat×Nat))(ss:List Stp):Prop:=∃ R1 R2,KRun (1+(2*W.ins+W.boxes.length)+2*W.gates.length) id (kept.map fun q=>(eM (kn W) q.1,eM (kn W) q.2)) R1/\RunS (2*W.ins+W.boxes.length) (1+(2*W.ins+W.boxes.length)+2*W.gates.length) (nG (y_b W++y_a W)) R1 ss R2 /\
 ∀ q∈kept,∃ x y:Nat,teF W (q.1:Int)=(x:Int)/\teF W (q.2:Int)=(y:Int)/\x<2*(1+(2*W.ins+W.boxes.length)+2*W.gates.length)/\y<2*(1+(2*W.ins+W.boxes.length)+2*W.gates.length)/\R2 x=R2 y
def PaperA(H:Hp)(p:Addr)(kept:List (Nat×Nat))(s2 s3:List Stp):Prop:=∃ a1 a2 a3 a4,H p=some (.tup [.ref a1,.ref a2,.ref a3,.ref a4])/\PrsA H a1 kept/\StpsA H a2 []/\StpsA H a3 s2/\StpsA H a4 s3
section
variable {ins K n:Nat} {p t:Nat->Nat}
theorem rE_2p(W:Wlk ins K n p t){j m:Nat}(hj:j<=K)(hm:m<K):rE ins p t j (2*p m)=2*p m:=by
 have:=rE_p W (j:=j) (e:=2*m) hj (by lia)
 unfold eM at this
 rw [show 2*m/2=m by lia,show 2*m%2=0 by lia] at this
 exact this
theorem o_u(W:Wlk ins K n p t){m:Nat}(hm:m<K)(hi:ins<m):2*p m<2*n/\2*t m<2*n/\rE ins p t m (2*p m)≠rE ins p t m (2*t m)/\rE ins p t m (2*p m)≠rE ins p t m (2*t m)^^^1 /\
  jn (rE ins p t m) (min (rE ins p t m (2*p m)) (rE ins p t m (2*t m))) (max (rE ins p t m (2*p m)) (rE ins p t m (2*t m)))=rE ins p t (m+1):=by
 have lt:=W.lt m hi hm
 have tn:=W.tn m hm
 rw [rE_2p W (by lia) hm,rE_new W hm hi,p_o,Nat.min_eq_left (by lia),Nat.max_eq_right (by lia)]
 exact ⟨by lia,by lia,by lia,by lia,rE_join W hm hi⟩
theorem krun(W:Wlk ins K n p t):∀ (c m:Nat),ins<m->m+c<=K->KRun n (rE ins p t m) ((List.range' m c).map fun k=>(2*p k,2*t k)) (rE ins p t (m+c))
 | 0,m,_,_=>.nil _
 | c+1,m,hi,hk=>by
  obtain ⟨h1,h2,h3,h4,h5⟩:=o_u W (m:=m) (by lia) hi
  rw [List.range'_succ,List.map_cons]
  refine .cons h1 h2 h3 h4 ?_
  rw [h5]
  have:=krun W c (m+1) (by lia) (by lia)
  rw [show m+1+c=m+(c+1) by lia] at this
  exact this
theorem rruns(W:Wlk ins K n p t){L:Nat}{gs:List (Nat×Nat)}{lf:Nat->List Nat}:∀ (c m:Nat),ins<m->m+c<=K->(∀ k,m<=k->k<m+c->(lf k).length<=6/\(∀ e∈lf k,e<2*n)/\goodS (rE ins p t k) L gs (2*p k) (2*t k) (lf k)=true/\CloS (givS (rE ins p t k) (lf k)) L gs n (2*p k) (2*t k)) ->
  RunS L n gs (rE ins p t m) ((List.range' m c).map fun k=>(2*p k,2*t k,lf k)) (rE ins p t (m+c))
 | 0,m,_,_,_=>.nil _
 | c+1,m,hi,hk,hg=>by
  obtain ⟨h1,h2,h3,h4,h5⟩:=o_u W (m:=m) (by lia) hi
  obtain ⟨g1,g2,g3,g4⟩:=hg m (Nat.le_refl _) (by lia)
  rw [List.range'_succ,List.map_cons]
  refine .cons h1 h2 g2 g1 g3 g4 h3 h4 ?_
  rw [h5]
  have:=rruns W (L:=L) (gs:=gs) (lf:=lf) c (m+1) (by lia) (by lia) fun k a b=>hg k (by lia) (by lia)
  rw [show m+1+c=m+(c+1) by lia] at this
  exact this
end
def gaN(A:Wk)(k:Nat):Nat×Nat:=(nG A.gates).getD (k-A.first) (0,0)
def lfN(A:Wk)(p:Nat->Nat)(k:Nat):List Nat:=lvs (eM p (gaN A k).1) (eM p (gaN A k).2)
def kpN(A:Wk)(p t:Nat->Nat):List (Nat×Nat):=(List.range' (1+A.ins) A.boxes.length).map fun k=>(2*p k,2*t k)
def stN'(A:Wk)(p t:Nat->Nat):List Stp:=(List.range' A.first A.gates.length).map fun k=>(2*p k,2*t k,lfN A p k)
section
variable {A B:Wk} {tw:Nat->Nat}
theorem gate_at{A:Wk}(ok:A.Ok){k:Nat}(h1:A.first<=k)(h2:k<A.first+A.gates.length):∃ a b:Nat,A.gates[k-A.first]? = some ((a:Int),(b:Int))/\gaN A k=(a,b)/\a/2<k/\b/2<k:=by
 have hl:k-A.first<A.gates.length:=by lia
 have hg:A.gates[k-A.first]? = some A.gates[k-A.first]:=List.getElem?_eq_getElem hl
 obtain ⟨⟨c1,c2⟩,c3,c4⟩:=ok.gate _ _ hg
 generalize A.gates[k-A.first]=x at hg c1 c2 c3 c4
 obtain ⟨xa,xb⟩:=x
 obtain ⟨a,rfl⟩:∃ a:Nat,xa=(a:Int):=⟨xa.toNat,by have:(0:Int)<=xa:=c1;lia⟩
 obtain ⟨b,rfl⟩:∃ b:Nat,xb=(b:Int):=⟨xb.toNat,by have:(0:Int)<=xb:=c3;lia⟩
 have c2':(a:Int)<2*((A.first:Int)+((k-A.first:Nat):Int)):=c2
 have c4':(b:Int)<2*((A.first:Int)+((k-A.first:Nat):Int)):=c4
 refine ⟨a,b,hg,?_,by lia,by lia⟩
 unfold gaN
 rw [List.getD_eq_getElem?_getD,nG_get hg]
 rfl
theorem lf_lt{p:Nat->Nat}{n k K:Nat}(hp:∀ x,x<K->p x<n)(hk:k<=K){a b:Nat}(ha:a/2<k)(hb:b/2<k):∀ e∈lvs (eM p a) (eM p b),e<2*n:=fun e he=>by
 have h1:=hp (a/2) (by lia)
 have h2:=hp (b/2) (by lia)
 rcases (s_w he).1 with rfl | rfl<;>unfold eM<;>lia
theorem box_at{A:Wk}(ok:A.Ok){k:Nat}(h:k<A.boxes.length):∃ (f:Int) (e:Nat),A.boxes[k]? = some (f,(e:Int))/\(f=0\/f=1)/\e/2<A.knots:=by
 have hg:A.boxes[k]? = some A.boxes[k]:=List.getElem?_eq_getElem h
 obtain ⟨c1,c2,c3⟩:=ok.box _ (List.getElem_mem h)
 generalize A.boxes[k]=x at hg c1 c2 c3
 obtain ⟨f,xe⟩:=x
 obtain ⟨e,rfl⟩:∃ e:Nat,xe=(e:Int):=⟨xe.toNat,by have:(0:Int)<=xe:=c2;lia⟩
 have c3':(e:Int)<2*(A.knots:Int):=c3
 exact ⟨f,e,hg,c1,by lia⟩
theorem kp_mem{p t:Nat->Nat}{q:Nat×Nat}(h:q∈kpN A p t):∃ k,k<A.boxes.length/\q=(2*p (1+A.ins+k),2*t (1+A.ins+k)):=by
 unfold kpN at h
 obtain ⟨x,hx,rfl⟩:=List.mem_map.mp h
 obtain ⟨h1,h2⟩:=List.mem_range'_1.mp hx
 exact ⟨x-(1+A.ins),by lia,by rw [show 1+A.ins+(x-(1+A.ins))=x by lia]⟩
theorem o_v(T:Twn A B tw){k:Nat}(hk:k<A.boxes.length):k1 A B (1+A.ins+k)=1+A.ins+k/\k2 A B (tw (1+A.ins+k))=1+A.ins+(A.boxes.length+k):=by
 have h2:=A.first_is
 have h3:=T.bl
 rw [T.lo _ (by lia)]
 unfold k1 k2
 rw [if_pos (by lia),if_neg (by lia),if_pos (by lia)]
 exact ⟨rfl,by lia⟩
theorem k_u(T:Twn A B tw)(okA:A.Ok)(ok:(bes A B).Ok):StartsOk (bes A B) (kpN A (k1 A B) fun k=>k2 A B (tw k)):=fun q hq=>by
 obtain ⟨k,hk,rfl⟩:=kp_mem hq
 obtain ⟨e1,e2⟩:=o_v T hk
 obtain ⟨f,e,hb,hf,he⟩:=box_at okA hk
 have hbA:=o_g (B:=B) hb
 have hbB:=o_h (A:=A) (T.bx k f e hb)
 have hbl:=w_y A B
 have h3:=T.bl
 have hin:(bes A B).ins=A.ins:=rfl
 have seV:∀ {x:Nat} {r:Int×Int},(bes A B).boxes[x]? = some r->r.1=f->seF (bes A B) ((2*(1+A.ins+x):Nat):Int)=f:=fun {x r} hx hr=>by
  have hxl:=(List.getElem?_eq_some_iff.mp hx).1
  unfold seF
  rw [hin,if_neg (by lia),if_pos (by lia),show (((2*(1+A.ins+x):Nat):Int)/2-(A.ins:Int)-1).toNat=x by lia,List.getD_eq_getElem?_getD,hx]
  show (r.1+_)%2=f
  rw [hr]
  lia
 have s1:seF (bes A B) ((2*k1 A B (1+A.ins+k):Nat):Int)=f:=by rw [e1];exact seV hbA rfl
 have s2:seF (bes A B) ((2*k2 A B (tw (1+A.ins+k)):Nat):Int)=f:=by rw [e2];exact seV hbB rfl
 show seF (bes A B) ((2*k1 A B (1+A.ins+k):Nat):Int)=seF (bes A B) ((2*k2 A B (tw (1+A.ins+k)):Nat):Int)/\0<=seF (bes A B) ((2*k1 A B (1+A.ins+k):Nat):Int)/\seF (bes A B) ((2*k1 A B (1+A.ins+k):Nat):Int)<_
 rw [s1,s2]
 refine ⟨rfl,?_,?_⟩<;>lia
theorem nexts_ok(T:Twn A B tw)(okA:A.Ok)(ok:(bes A B).Ok):NextsOk (bes A B) (kpN A (k1 A B) fun k=>k2 A B (tw k)) (stN' A (fun k=>kn (bes A B) (k1 A B k)) fun k=>kn (bes A B) (k2 A B (tw k))):=by
 have h1:=A.knots_is
 have h2:=A.first_is
 have hbl:=w_y A B
 have hgl:=v_v A B
 have hin:(bes A B).ins=A.ins:=rfl
 have hn:1+(2*(bes A B).ins+(bes A B).boxes.length)+2*(bes A B).gates.length=1+(2*A.ins+(A.boxes.length+B.boxes.length))+2*(A.gates.length+B.gates.length):=by rw [hbl,hgl,hin]
 have hL:2*(bes A B).ins+(bes A B).boxes.length=2*A.ins+(A.boxes.length+B.boxes.length):=by rw [hbl,hin]
 have W:=T.next
 have pl:∀ x,x<A.knots->kn (bes A B) (k1 A B x)<1+(2*A.ins+(A.boxes.length+B.boxes.length))+2*(A.gates.length+B.gates.length):=fun x hx=>by
  by_cases c:x<=A.ins
  ·have:=W.sh x c
   have h:=W.tn x hx
   lia
  ·exact Nat.lt_trans (W.lt x (by lia) hx) (W.tn x hx)
 have tl:=W.tn
 refine ⟨rE A.ins (fun k=>kn (bes A B) (k1 A B k)) (fun k=>kn (bes A B) (k2 A B (tw k))) A.first,rE A.ins (fun k=>kn (bes A B) (k1 A B k)) (fun k=>kn (bes A B) (k2 A B (tw k))) A.knots,?_,?_,fun q hq=>?_⟩
 ·rw [hn,<-n_a (ins:=A.ins) (p:=fun k=>kn (bes A B) (k1 A B k)) (t:=fun k=>kn (bes A B) (k2 A B (tw k)))]
  have:=krun W A.boxes.length (A.ins+1) (by lia) (by lia)
  rw [show A.ins+1+A.boxes.length=A.first by lia] at this
  have e:((kpN A (k1 A B) fun k=>k2 A B (tw k)).map fun q:Nat×Nat=>(eM (kn (bes A B)) q.1,eM (kn (bes A B)) q.2))=(List.range' (A.ins+1) A.boxes.length).map fun k=>(2*kn (bes A B) (k1 A B k),2*kn (bes A B) (k2 A B (tw k))):=by
   unfold kpN
   rw [List.map_map,show 1+A.ins=A.ins+1 by lia]
   refine List.map_congr_left fun k _=>?_
   have ev:∀ x:Nat,eM (kn (bes A B)) (2*x)=2*kn (bes A B) x:=fun x=>by unfold eM;rw [show 2*x/2=x by lia,show 2*x%2=0 by lia];rfl
   show (eM (kn (bes A B)) (2*k1 A B k),eM (kn (bes A B)) (2*k2 A B (tw k)))=_
   rw [ev,ev]
  rw [e]
  exact this
 ·rw [hn,hL]
  exact rruns W (L:=2*A.ins+(A.boxes.length+B.boxes.length)) (gs:=nG (y_b (bes A B)++y_a (bes A B))) (lf:=lfN A fun k=>kn (bes A B) (k1 A B k)) A.gates.length A.first (by lia) (by lia) fun k a b=>by
   obtain ⟨x,y,e1,e2,e3,e4⟩:=gate_at okA a b
   unfold lfN
   rw [e2]
   obtain ⟨j,rfl⟩:∃ j,k=A.first+j:=⟨k-A.first,by lia⟩
   rw [Nat.add_sub_cancel_left] at e1
   obtain ⟨g1,g2⟩:=l_w T ok e1 ⟨e3,e4⟩
   exact ⟨Nat.le_trans (l_t _ _) (by decide),lf_lt pl (by lia) e3 e4,g1,g2⟩
 ·obtain ⟨k,hk,rfl⟩:=kp_mem hq
  obtain ⟨e1,e2⟩:=o_v T hk
  obtain ⟨f,e,hb,hf,he⟩:=box_at okA hk
  have hbA:=o_g (B:=B) hb
  have hbB:=o_h (A:=A) (T.bx k f e hb)
  have h3:=T.bl
  have teV:∀ {x y:Nat} {r:Int},(bes A B).boxes[x]? = some (r,(y:Int))->teF (bes A B) ((2*(1+A.ins+x):Nat):Int)=((eM (kn (bes A B)) y:Nat):Int):=fun {x y r} hx=>by
   have hxl:=(List.getElem?_eq_some_iff.mp hx).1
   unfold teF
   rw [hin,if_neg (by lia),if_neg (by lia),if_pos (by lia),show (((2*(1+A.ins+x):Nat):Int)/2-(A.ins:Int)-1).toNat=x by lia,List.getD_eq_getElem?_getD,hx]
   show xr (neF (bes A B) (y:Int)) _=_
   unfold xr
   rw [if_pos (by lia),q_i]
  have a1:=pl _ he
  have a2:=tl _ he
  refine ⟨eM (fun k=>kn (bes A B) (k1 A B k)) e,eM (fun k=>kn (bes A B) (k2 A B (tw k))) e,?_,?_,?_,?_,?_⟩
  ·show teF (bes A B) ((2*k1 A B (1+A.ins+k):Nat):Int)=_
   rw [e1,teV hbA,s_u]
  ·show teF (bes A B) ((2*k2 A B (tw (1+A.ins+k)):Nat):Int)=_
   rw [e2,teV hbB,s_u,s_u]
  ·rw [hn];show 2*kn (bes A B) (k1 A B (e/2))+e%2<_;lia
  ·rw [hn];show 2*kn (bes A B) (k2 A B (tw (e/2)))+e%2<_
   have:kn (bes A B) (k2 A B (tw (e/2)))<_:=a2
   lia
  ·rw [rE_p W (Nat.le_refl _) he,rE_t W (Nat.le_refl _) he]
theorem m_t{A B:Wk}(okA:A.Ok)(okB:B.Ok)(hi:A.ins=B.ins)(hb:A.boxes.length+B.boxes.length<=40)(hg:A.gates.length+B.gates.length<=2000)(ho:A.outs.length+B.outs.length<=20):(bes A B).Ok:=by
 have hbl:=w_y A B
 have hgl:=v_v A B
 have a1:=A.knots_is
 have a2:=A.first_is
 have b1:=B.knots_is
 have b2:=B.first_is
 have hf:(bes A B).first=1+A.ins+(A.boxes.length+B.boxes.length):=by show 1+A.ins+(bes A B).boxes.length=_;rw [hbl]
 have hk:((bes A B).knots:Int)=(nB A B:Int):=by
  show ((1+A.ins+(bes A B).boxes.length+(bes A B).gates.length:Nat):Int)=_
  rw [hbl,hgl]
  rfl
 refine ⟨okA.ins,by rw [hbl];exact hb,by rw [hgl];exact hg,?_,fun k x hx=>?_,fun x hx=>?_,fun x hx=>?_⟩
 ·show (ot (two A B)).length<=20
  unfold ot two
  simp
  lia
 ·rw [hf]
  have hx':(gt (two A B))[k]? = some x:=hx
  unfold gt two at hx'
  rw [List.flatMap_cons] at hx'
  by_cases c:k<A.gates.length
  ·rw [List.getElem?_append_left (by rw [List.length_map];exact c),List.getElem?_map] at hx'
   obtain ⟨y,hy,rfl⟩:=Option.map_eq_some_iff.mp hx'
   obtain ⟨⟨c1,c2⟩,c3,c4⟩:=okA.gate k y hy
   show (0<=F1 A B y.1/\F1 A B y.1<_)/\0<=F1 A B y.2/\F1 A B y.2<_
   unfold F1 leF
   refine ⟨⟨?_,?_⟩,?_,?_⟩<;>split<;>(try split)<;>lia
  ·rw [List.getElem?_append_right (by rw [List.length_map];exact Nat.le_of_not_lt c),List.length_map,List.flatMap_cons,List.flatMap_nil,List.append_nil,List.getElem?_map] at hx'
   obtain ⟨y,hy,rfl⟩:=Option.map_eq_some_iff.mp hx'
   have hy':B.gates[k-A.gates.length]? = some y:=hy
   obtain ⟨⟨c1,c2⟩,c3,c4⟩:=okB.gate _ y hy'
   show (0<=F2 A B y.1/\F2 A B y.1<_)/\0<=F2 A B y.2/\F2 A B y.2<_
   unfold F2 leF
   refine ⟨⟨?_,?_⟩,?_,?_⟩<;>split<;>(try split)<;>lia
 ·rw [hk]
  have hx':x∈bx (two A B):=hx
  unfold bx two at hx'
  rw [List.flatMap_cons,List.flatMap_cons,List.flatMap_nil,List.append_nil] at hx'
  rcases List.mem_append.mp hx' with h | h
  ·obtain ⟨y,hy,rfl⟩:=List.mem_map.mp h
   obtain ⟨c1,c2,c3⟩:=okA.box y hy
   exact ⟨c1,F1_bound c2 c3⟩
  ·obtain ⟨y,hy,rfl⟩:=List.mem_map.mp h
   obtain ⟨c1,c2,c3⟩:=okB.box y hy
   exact ⟨c1,F2_bound hi c2 c3⟩
 ·rw [hk]
  have hx':x∈ot (two A B):=hx
  unfold ot two at hx'
  rw [List.flatMap_cons,List.flatMap_cons,List.flatMap_nil,List.append_nil] at hx'
  rcases List.mem_append.mp hx' with h | h
  ·obtain ⟨y,hy,rfl⟩:=List.mem_map.mp h
   obtain ⟨c2,c3⟩:=okA.out y hy
   exact F1_bound c2 c3
  ·obtain ⟨y,hy,rfl⟩:=List.mem_map.mp h
   obtain ⟨c2,c3⟩:=okB.out y hy
   exact F2_bound hi c2 c3
end
open PySem
def absI(c:Int):Int:=if c<0 then -c else c
def rwM(cell i:Int)(k:Nat):Int :=
 let x:=(absI cell%1000003+7919*(0+(k:Int))*(0+(k:Int))+104729*i+31*(0+(k:Int))+5)*48271%2147483647
 (x*x%2147483629+x/7)%10^(6:Int).toNat
def rwD(cell i:Int):Nat->Int×List Int
 | 0=>(absI cell,[])
 | k+1=>if 10^(18:Int).toNat<=absI cell/\0<(rwD cell i k).1 then ((rwD cell i k).1/10^(4:Int).toNat,(rwD cell i k).2++[(rwD cell i k).1%10^(4:Int).toNat]) else ((rwD cell i k).1,(rwD cell i k).2++[rwM cell i k])
theorem rwD_hi{cell i rest:Int}{k:Nat}{rs:List Int}(h:rwD cell i k=(rest,rs))(c1:10^(18:Int).toNat<=absI cell)(c2:0<rest):rwD cell i (k+1)=(rest/10^(4:Int).toNat,rs++[rest%10^(4:Int).toNat]):=by
 rw [rwD,h]
 exact if_pos ⟨c1,c2⟩
theorem rwD_lo{cell i rest:Int}{k:Nat}{rs:List Int}(h:rwD cell i k=(rest,rs))(c:¬(10^(18:Int).toNat<=absI cell/\0<rest)):rwD cell i (k+1)=(rest,rs++[rwM cell i k]):=by
 rw [rwD,h]
 exact if_neg c
def rowOf(ns:List Int)(i n:Int):List Int:=(rwD (ns.getD i.toNat 0) i n.toNat).2
def p_b(K:PySem.W.Frag):Sp:=fun vs H Q _=>∃ (a:Addr) (ns:List Int) (i n:Int),vs=[.ref a,.int i,.int n]/\SqL K H a (ns.map V.int)/\ns.length<=63/\0<=i/\0<=n/\n<=1000 /\
 ∀ p (rs:List Int) H',H p=none->Same H H'->H' p=some (.lst (rs.map V.int))->(rs.length:Int)=n->Drawn rs->rs=rowOf ns i n->Q (.ref p) H'
def RowInvD(a p:Addr)(cell i n:Int)(H:Hp)(j:Nat)(σ:St)(H':Hp):Prop :=
 ∃ (rest:Int) (rs:List Int) (x y:Option V),σ=[some (.ref a),some (.int i),some (.int n),some (.int cell),some (.int rest),some (.bl (decide (10^(18:Int).toNat<=absI cell))),some (.ref p),x,y]/\0<=rest/\rs.length=j/\Drawn rs/\Same H H'/\H' p=some (.lst (rs.map V.int))/\rwD cell i j=(rest,rs)
def s_i(K:PySem.W.Frag):Sp:=fun vs H Q _=>∃ (a z:Addr) (rs zs:List Int),vs=[.ref a,.ref z]/\SqL K H a (rs.map V.int)/\SqL K H z (zs.map V.int)/\rs.length=60/\Drawn rs/\4<=zs.length/\(∀ r∈zs,0<=r) /\
 ∀ w b g o W H',H w=none->H b=none->H g=none->H o=none->Same H H'->IsWkA H' w b g o W->W.Ok->W.gates.length<=12->W.outs.length<=8->W.boxes.length<=8->Q (.ref w) H'
def prs_un{H:Hp}{rs:List Addr}{ps:List (Nat×Nat)}(h:Paired (fun r (p:Int×Int)=>H r=some (.tup [.int p.1,.int p.2])) rs (gI ps)):Paired (fun r (q:Nat×Nat)=>H r=some (.tup [.int (q.1:Int),.int (q.2:Int)])) rs ps:=pairedUnmap (R:=fun r (p:Int×Int)=>H r=some (.tup [.int p.1,.int p.2])) (f:=fun q:Nat×Nat=>((q.1:Int),(q.2:Int))) h
section
variable {A B:Wk} {tw:Nat->Nat}
theorem r_s(A B:Wk):(bes A B).knots=nB A B:=by
 show 1+A.ins+(bes A B).boxes.length+(bes A B).gates.length=_
 rw [w_y,v_v]
 rfl
theorem nB_is(A B:Wk):nB A B=1+A.ins+(A.boxes.length+B.boxes.length)+(A.gates.length+B.gates.length):=rfl
end
end L2
namespace L2
open PySem
end L2
namespace L2
open PySem
end L2
namespace L2
open PySem PySem.Spec PyProof.Rows
open PySem.W (hideAll hideAll_get hideAll_none of_hideAll funFrames_hide)
structure Fly(a:Addr)(cls:Value)(h0:Heap)(H:Hp)(h:Heap):Prop where
 tr:∃ (oe:Obj) (vs:Array Value) (T:Addr) (oT:Obj) (ts:Array Value) (a0:Value),h.get? a=some oe/\(oe.cls=cls/\vs[0]? = some a0)/\oe.data = .fields vs/\vs[1]? = some (.ref T)/\T≠a/\h.get? T=some oT/\oT.data = .fields ts/\ts[3]? = some .none/\h0.get? T=none/\H T=none
 new:h0.get? a=none
 un:H a=none
def CXF(P:Program)(w:World):CXT:=fun outer H s E e s'=>∃ (a:Addr) (cls:Value) (H':Hp),e = .ref a/\s'.os=s.os/\AllBare s'.gens/\Un (frs outer) [] H H' s.heap s'.heap/\HOk P w H' s'.heap/\Fly a cls s.heap H' s'.heap/\E cls none H'
theorem ObjOk.ex{P:Program}{w:World}{H:Hp}{h:Heap}{a:Addr}{o:HO}(x:ObjOk P w H h a o):∃ ob,h.get? a=some ob:=by
 cases o with
 | lst xs=>obtain ⟨_,_,_,_,e⟩:=x;exact ⟨_,e⟩
 | tup xs=>obtain ⟨_,_,_,ob,e,_⟩:=x;exact ⟨_,e⟩
 | dK kvs=>obtain ⟨_,_,_,_,o,_,_,e,_⟩:=x;exact ⟨_,e⟩
 | dT kvs=>obtain ⟨_,_,_,_,o,_,_,e,_⟩:=x;exact ⟨_,e⟩
 | set S n=>obtain ⟨o,_,_,_,e,_⟩:=x;exact ⟨_,e⟩
 | ins C dx fs=>obtain ⟨_,_,_,e,_⟩:=x;exact ⟨_,e⟩
 | own y=>exact x
 | xd fs=>obtain ⟨_,⟨_,_,_,e,_⟩,_⟩:=x;exact ⟨_,e⟩
 | rng lo hi=>obtain ⟨_,_,_,e⟩:=x;exact ⟨_,e⟩
 | frz ob u=>obtain ⟨e,_⟩:=x;exact ⟨_,e⟩
 | tbl pos qual=>obtain ⟨_,e,_⟩:=x;exact ⟨_,e⟩
 | met f y=>exact ⟨_,(show h.get? a=some _ from x)⟩
 | ext φ=>obtain ⟨_,e,_⟩:=x;exact e
section
variable {P:Program} {w:World} {base h0 h h2:Heap} {l l':List Env} {a T:Addr} {cls a0:Value} {H H':Hp}
theorem s_x(FF:h.FunFrames base l)(u:Un (frs l) [] H H' h0 h)(hok:HOk P w H' h)(frf:∀ b∈frs l,H' b=none)(ha:H' a=none)(hT:H' T=none)(na:h0.get? a=none)(nT:h0.get? T=none)
  (hfl:Heap.FlyingW (hideAll h (a::T::frs l)) l' a cls a0 h2) (up:h.UpToSlots h2):Un (frs l) [] H H' h0 h2/\HOk P w H' h2/\Fly a cls h0 H' h2:=by
 have keep:∀ b o,h.get? b=some o->b≠a->b≠T->b∉frs l->h2.get? b=some o:=fun b o e n1 n2 n3=>hfl.1 b o (hideAll_get _ e fun z=>by
  rcases List.mem_cons.mp z with z | z
  ·exact n1 z
  ·rcases List.mem_cons.mp z with z | z
   ·exact n2 z
   ·exact n3 z)
 have slot:∀ b o,h.get? b=some o->b∈frs l->(∃ sl,h2.get? b=some { o with slots:=sl })/\∀ vs,o.data ≠ .fields vs:=fun b o e hb=>by
  obtain ⟨_,o',ho',hd⟩:=FF.mem hb
  rw [e] at ho'
  cases ho'
  exact ⟨up b o e hd,hd⟩
 have old:∀ b o,h0.get? b=some o->b≠a/\b≠T:=fun b o e=>⟨fun z=>(by rw [z,na] at e;cases e),fun z=>(by rw [z,nT] at e;cases e)⟩
 have trk:∀ b v,H' b=some v->b≠a/\b≠T/\b∉frs l:=fun b v e=>⟨z_h e ha,z_h e hT,fun z=>by rw [frf b z] at e;cases e⟩
 refine ⟨⟨fun b o e n hb hx=>?_,fun b o e n hb hx=>?_,u.free,fun b o e hx=>?_,u.tups,u.frzs,u.tbls⟩,fun c v e=>?_,?_⟩
 ·exact keep b o (u.keep b o e n hb hx) (old b o e).1 (old b o e).2 hb
 ·obtain ⟨sl,e1⟩:=u.slot b o e n hb hx
  obtain ⟨⟨sl2,e2⟩,_⟩:=slot b _ e1 hb
  exact ⟨sl2,e2⟩
 ·obtain ⟨o',e1⟩:=u.there b o e hx
  by_cases hb:b∈frs l
  ·obtain ⟨⟨sl,e2⟩,_⟩:=slot b o' e1 hb
   exact ⟨_,e2⟩
  ·exact ⟨o',keep b o' e1 (old b o e).1 (old b o e).2 hb⟩
 ·exact (hok c v e).stay (fun b z hb q=>by
   have t:b≠a/\b≠T/\b∉frs l:=by
    rcases hb with rfl | hb
    ·exact trk b v e
    ·exact trk b _ hb
   exact keep b z q t.1 t.2.1 t.2.2) (fun _ q=>q) (fun _ _ q=>q) fun _ _ _ q=>q
 ·obtain ⟨_,_,_,oe,vs,T2,oT,ts,x1,x2,x3,x4,x5,x6,x7,x8,x9⟩:=hfl
  refine ⟨⟨oe,vs,T2,oT,ts,a0,x1,x2,x3,x4,x6,x7,x8,x9,?_,?_⟩,na,ha⟩
  ·cases q:h0.get? T2 with
   | none=>rfl
   | some o =>
    exfalso
    obtain ⟨n1,n2⟩:=old T2 o q
    obtain ⟨o',e1⟩:=u.there T2 o q (by simp)
    by_cases hb:T2∈frs l
    ·obtain ⟨⟨sl,e2⟩,hd⟩:=slot T2 o' e1 hb
     rw [e2] at x7
     cases x7
     exact hd ts x8
    ·rw [hideAll_get _ e1 (fun z=>by
      rcases List.mem_cons.mp z with z | z
      ·exact n1 z
      ·rcases List.mem_cons.mp z with z | z
       ·exact n2 z
       ·exact hb z)] at x5
     cases x5
  ·cases q:H' T2 with
   | none=>rfl
   | some v =>
    exfalso
    obtain ⟨n1,n2,n3⟩:=trk T2 v q
    obtain ⟨ob,e1⟩:=(hok T2 v q).ex
    rw [hideAll_get _ e1 (fun z=>by
      rcases List.mem_cons.mp z with z | z
      ·exact n1 z
      ·rcases List.mem_cons.mp z with z | z
       ·exact n2 z
       ·exact n3 z)] at x5
    cases x5
theorem o_o(FF:h.FunFrames base l)(F:Fly a cls h0 H h):∃ T a0,Heap.FlyingW (hideAll h (a::T::frs l)) l a cls a0 h/\h0.get? T=none/\H T=none:=by
 obtain ⟨oe,vs,T,oT,ts,a0,x1,x2,x3,x4,x6,x7,x8,x9,x10,x11⟩:=F.tr
 refine ⟨T,a0,⟨fun b o q=>of_hideAll _ q,hideAll_none _ (List.mem_cons_self),funFrames_hide FF fun env he b hb=>?_,oe,vs,T,oT,ts,x1,x2,x3,x4,hideAll_none _ (List.mem_cons_of_mem _ List.mem_cons_self),x6,x7,x8,x9⟩,x10,x11⟩
 exact List.mem_cons_of_mem _ (List.mem_cons_of_mem _ (List.mem_filterMap.mpr ⟨env,he,hb⟩))
end
section
variable {X:Cx} {pins:List (Addr×Obj)} {σ:St} {H:Hp} {s s':Shared} {E:XK}
theorem m_f{e:Value}{E2:Value->Shared->Prop}(I:Inv X pins σ H s)(hst:X.stack=X.env::X.outer)(hfr:X.env.frame=some X.env.locals)(hex:X.ex=[])(c:CXF X.prog X.w X.stack H s E e s') :
  wpAny (model X.prog X.w) X.A (leaving X.env e) (fun _ s''=>CXF X.prog X.w X.outer X.H₀ X.s₀ E e s'') E2 s':=by
 obtain ⟨a,cls,H',rfl,os,bare,u,hok,F,q⟩:=c
 have J:Inv X pins σ H' s':=I.call' os u hok bare (fun b hb=>absurd hb (by simp))
 obtain ⟨T,a0,hfl,nT,hT⟩:=o_o J.stack F
 rw [hst] at hfl
 refine wpAny_leaves_onW (by rw [J.ok.frames,hst]) hfr hfl fun h2 hfl2 up=>?_
 rw [<-hst] at hfl2
 obtain ⟨u2,hok2,F2⟩:=s_x J.stack u hok J.stkFree F.un hT F.new nT hfl2 up
 have J2:Inv X pins σ H' { s' with heap:=h2 }:=I.call' (s':={ s' with heap:=h2 }) os u2 hok2 bare (fun b hb=>absurd hb (by simp))
 have hb2:=J2.base
 rw [hex] at hb2
 have old:∀ b,s.heap.get? b=none->X.s₀.heap.get? b=none:=fun b hb=>by
  cases z:X.s₀.heap.get? b with
  | none=>rfl
  | some o =>
   obtain ⟨o',e'⟩:=I.base.there b o z (by rw [hex];simp)
   rw [hb] at e'
   cases e'
 obtain ⟨⟨oe,vs,T2,oT,ts,a1,x1,x2,x3,x4,x6,x7,x8,x9,x10,x11⟩,n1,n2⟩:=F2
 exact ⟨a,cls,H',rfl,J2.os,bare,hb2,hok2,⟨⟨oe,vs,T2,oT,ts,a1,x1,x2,x3,x4,x6,x7,x8,x9,old _ x10,x11⟩,old _ n1,n2⟩,q⟩
theorem o_a{h':Heap}{a:Addr}{cls:Value}{vs:List Value}{E2:Value->Shared->Prop}(I:Inv X pins σ H s)(hst:X.stack=X.env::X.outer)(hfr:X.env.frame=some X.env.locals)(hex:X.ex=[])(hx:Heap.MadeExcOf s.heap h' a cls vs)(q:E cls none H) :
  wpAny (model X.prog X.w) X.A (leaving X.env (.ref a)) (fun _ s''=>CXF X.prog X.w X.outer X.H₀ X.s₀ E (.ref a) s'') E2 { s with heap:=h' }:=by
 have FF:=I.stack
 have inF:∀ env∈X.stack,∀ b,env.frame=some b->b∈frs X.stack:=fun env he b hb=>List.mem_filterMap.mpr ⟨env,he,hb⟩
 refine wpAny_leaves_madeW (base:=hideAll s.heap (frs X.stack)) (h:=s.heap) (by rw [I.ok.frames,hst]) hfr (fun b o q=>of_hideAll _ q) (by have:=funFrames_hide FF inF;rw [hst] at this ⊢;exact this) hx fun h2 t hfl htup hnt up=>?_
 have keep:∀ b o,s.heap.get? b=some o->b∉frs X.stack->h2.get? b=some o:=fun b o e n=>hfl.1 b o (hideAll_get _ e n)
 have slot:∀ b o,s.heap.get? b=some o->b∈frs X.stack->(∃ sl,h2.get? b=some { o with slots:=sl })/\∀ vs,o.data ≠ .fields vs:=fun b o e hb=>by
  obtain ⟨_,o',ho',hd⟩:=FF.mem hb
  rw [e] at ho'
  cases ho'
  exact ⟨up b o (hx.keeps b o e) hd,hd⟩
 have u2:Un (frs X.stack) [] H H s.heap h2:=by
  refine ⟨fun b o e n hb _=>keep b o e hb,fun b o e n hb _=>(slot b o e hb).1,fun b o e n _=>n,fun b o e _=>?_,fun _ _ q=>q,fun _ _ _ q=>q,fun _ _ _ q=>q⟩
  by_cases hb:b∈frs X.stack
  ·obtain ⟨⟨sl,e2⟩,_⟩:=slot b o e hb
   exact ⟨_,e2⟩
  ·exact ⟨o,keep b o e hb⟩
 have trk:∀ b v,H b=some v->b∉frs X.stack:=fun b v e z=>by rw [I.stkFree b z] at e;cases e
 have hok2:HOk X.prog X.w H h2:=fun c v e=>(I.hok c v e).stay (fun b z hb q=>keep b z q (by
   rcases hb with rfl | hb
   ·exact trk b v e
   ·exact trk b _ hb)) (fun _ q=>q) (fun _ _ q=>q) fun _ _ _ q=>q
 have J2:Inv X pins σ H { s with heap:=h2 }:=I.call' (s':={ s with heap:=h2 }) rfl u2 hok2 I.bare (fun b hb=>absurd hb (by simp))
 have hb2:=J2.base
 rw [hex] at hb2
 have old:∀ b,s.heap.get? b=none->X.s₀.heap.get? b=none:=fun b hb=>by
  cases z:X.s₀.heap.get? b with
  | none=>rfl
  | some o =>
   obtain ⟨o',e'⟩:=I.base.there b o z (by rw [hex];simp)
   rw [hb] at e'
   cases e'
 have unt:∀ b,s.heap.get? b=none->H b=none:=fun b hb=>by
  cases z:H b with
  | none=>rfl
  | some v =>
   obtain ⟨ob,e'⟩:=(I.hok b v z).ex
   rw [hb] at e'
   cases e'
 obtain ⟨_,_,_,oe,vs',T2,oT,ts,x1,x2,x3,x4,x5,x6,x7,x8,x9⟩:=hfl
 have nT:s.heap.get? T2=none:=by
  cases z:s.heap.get? T2 with
  | none=>rfl
  | some o =>
   exfalso
   by_cases hb:T2∈frs X.stack
   ·obtain ⟨⟨sl,e2⟩,hd⟩:=slot T2 o z hb
    rw [e2] at x7
    cases x7
    exact hd ts x8
   ·rw [hideAll_get _ z hb] at x5
    cases x5
 exact ⟨a,cls,H,rfl,J2.os,J2.bare,hb2,hok2,⟨⟨oe,vs',T2,oT,ts,_,x1,x2,x3,x4,x6,x7,x8,x9,old _ nT,unt _ nT⟩,old _ hx.new,unt _ hx.new⟩,q⟩
end
theorem passF{P:Program}{w:World}{K:PySem.W.Frag}{mg:Str->Option Value}{base:Heap}{N:List Str}{qual:Str}{scope:Scope}{f:Addr}{cd:Value}{A:Around}{outer:List Env}{s:Shared}{H:Hp}{E:XK} :
  Passes (CXF P w) (cxOf (CXF P w) P w K mg base N qual scope f cd A outer s H E) E:=fun pins σ H1 s1 e s' I c=>m_f I rfl rfl rfl c
abbrev bmV:List Value:=[.type "ValueError",.type "Exception",.type "BaseException",.type "object"]
def excK(K:PySem.W.Frag)(C:Addr)(bm:List Value):Bool:=PySem.W.excIn K C bmV "ValueError.__new__" && match K.lookup C with
 | some ⟨_,_,.cls cd,_⟩=>cd.mro == .ref C::bm
 | _=>false
theorem u_o{K:PySem.W.Frag}{h:Heap}{C:Addr}{bm:List Value}(X:K.In h)(q:excK K C bm=true):∃ (N:Addr) (nm qn:Str) (bs:List Value) (hd:Bool) (sn:List Str) (sub:List Value) (ab:Bool) (col:Option Bool) (dd:Option Addr) (k0 k1 k2 k3 k5:Option Value) (mN:Str->Option Value),
  h.get? C=some (excClassObj nm qn C N bs bm hd sn sub ab col dd k0 k1 k2 k3 k5 "ValueError.__new__")/\h.Ns N mN/\mN "__init__" = none/\OwnTail h bmV bm:=by
 unfold excK at q
 rw [Bool.and_eq_true] at q
 obtain ⟨q,q2⟩:=q
 unfold PySem.W.excIn at q
 split at q
 ·rename_i dd cd sl ho
  rw [ho] at q2
  split at q
  ·rename_i C' bm' k0 k1 k2 k3 n k5 hm hs
   simp only [Bool.and_eq_true,beq_iff_eq,Bool.not_eq_true'] at q
   obtain ⟨⟨⟨⟨⟨rfl,rfl⟩,hdel⟩,ht⟩,hok⟩,hni⟩:=q
   obtain ⟨nm,bs,mro,ns,qn,hd,sn,sub,ab,col,del⟩:=cd
   dsimp only at hm hdel hok hni q2
   subst hm hdel
   have e:=beq_iff_eq.mp q2
   injection e with _ e
   subst e
   have hsl:sl = #[k0,k1,k2,k3,some (.builtin "ValueError.__new__"),k5]:=by
    obtain ⟨l⟩:=sl
    simp only at hs
    rw [hs]
   subst hsl
   exact ⟨ns,nm,qn,bs,hd,sn,sub,ab,col,dd,k0,k1,k2,k3,k5,_,X _ _ ho,.of_isNs (isNs_of_in X hok),PySem.W.nsMap_none_of_in X hok hni,PySem.W.tail_of_in X ht⟩
  ·cases q
 ·cases q
def Raises(X:Cx)(E:XK):Prop:=∀ (pins:List (Addr×Obj)) (σ:St) (H:Hp) (s:Shared) (h':Heap) (a:Addr) (cls:Value) (vs:List Value),Inv X pins σ H s->Heap.MadeExcOf s.heap h' a cls vs->E cls none H->X.xe (.ref a) { s with heap:=h' }
theorem raisesF{P:Program}{w:World}{K:PySem.W.Frag}{mg:Str->Option Value}{base:Heap}{N:List Str}{qual:Str}{scope:Scope}{f:Addr}{cd:Value}{A:Around}{outer:List Env}{s:Shared}{H:Hp}{E:XK} :
  Raises (cxOf (CXF P w) P w K mg base N qual scope f cd A outer s H E) E:=fun pins σ H1 s1 h' a cls vs I hx q=>o_a I rfl rfl rfl hx q
def sRaise(C:Addr)(E:XK)(t:TA):TS:=fun D σ H=>t σ H fun vs H1=>vs.length<=100/\E (.ref C) none H1
section
variable {X:Cx} {E:XK} {C:Addr} {bm:List Value} {x:Str} {np cpos pos:Pos} {e₀:Expr} {rest:List Expr} {t:TA}
theorem ps_raise(hc:X.calm=true)(hr:Raises X E)(hg:Gl X x)(hm:X.mg x=some (.ref C))(q:excK X.K C bm=true)(ha:PA X (e₀::rest) t)
  (he:starEach (e₀::rest) X.env=(false,eval e₀ X.env)::starEach rest X.env:=by rfl) (hplain:(backTo cpos (starEach rest X.env)).any (·.1)=false:=by rfl) (hdb:(x == ("__debug__" : Str))=false:=by decide) :
  PS X (.Raise (some (.Call (.Name x np) (e₀::rest) [] cpos)) none pos) (sRaise C E t):=by
 intro pins s σ H D I h
 obtain ⟨N,nm,qn,bs,hd,sn,sub,ab,col,dd,k0,k1,k2,k3,k5,mN,hC,hN,hni,T⟩:=u_o I.mod.kin q
 refine wpAny_Raise_call_subT (C:=C) (nm:=nm) (q:=qn) (N:=N) (bs:=bs) (bm:=bm) (hdct:=hd) (sn:=sn) (sub:=sub) (ab:=ab) (col:=col) (dd:=dd) (k0:=k0) (k1:=k1) (k2:=k2) (k3:=k3) (k5:=k5)
  PySem.F.excBase_ValueError (mN:=mN) (T.hasType PySem.F.excBase_ValueError.hasBase) (I.ok.hd hc) (by rw [he];show (false || (backTo cpos (starEach rest X.env)).any (·.1))=false;rw [hplain];rfl) hni (w_t I hg hm ⟨rfl,?_⟩ hdb)
 have h1:=ha cpos pins s σ H _ I h
 rw [he] at h1 ⊢
 refine Calls.evalArgs_plain (wpAny_mono h1 (fun us s2 z=>?_) fun _ _ y=>y)
 obtain ⟨vs,H2,I2,r,lv,w⟩:=z
 exact ⟨rfl,by rw [<-r.length];exact Nat.le_trans lv (by decide),I2.bk _ _ hC,hN.keeps I2.bk,T.keeps I2.bk,fun h' a hx=>hr pins σ H2 s2 h' a (.ref C) us I2 hx w⟩
end
end L2
namespace L2
open PySem PySem.Spec PyProof.Rows
open PySem.W (hideAll hideAll_get hideAll_none of_hideAll funFrames_hide)
def EXO(a:Addr)(cls:Value):HO:=.ext fun h=>∃ o,h.get? a=some o/\o.cls=cls
section
variable {X:Cx} {pins p0:List (Addr×Obj)} {σ:St} {H:Hp} {s:Shared}
theorem Inv.track{a:Addr}{o:HO}(I:Inv X pins σ H s)(ha:H a=none)(hok:ObjOk X.prog X.w (upd H a o) s.heap a o)(n0:X.s₀.heap.get? a=none)(nL:a≠X.env.locals)(nC:∀ x c,X.env.cells.lookup x=some c->c≠a)(nP:∀ p∈X.pn++pins,p.1≠a):Inv X pins σ (upd H a o) s:=by
 have k:∀ {b:Addr},b≠a->H b=none->upd H a o b=none:=fun n e=>by rw [z_m n];exact e
 refine ⟨I.ok,I.os,I.bare,⟨I.base.keep,I.base.slot,fun b ob e n hx=>?_,I.base.there,fun b xs e=>?_,fun b ob u e=>?_,fun b p q e=>?_⟩,I.loc,I.cell,k (Ne.symm nL) I.free,fun x c e=>k (nC x c e) (I.freeC x c e),fun p hp=>?_,fun b u e=>?_,I.len⟩
 ·exact k (fun z=>by rw [z,n0] at e;cases e) (I.base.free b ob e n hx)
 ·rw [z_m (z_h (I.base.tups b xs e) ha)];exact I.base.tups b xs e
 ·rw [z_m (z_h (I.base.frzs b ob u e) ha)];exact I.base.frzs b ob u e
 ·rw [z_m (z_h (I.base.tbls b p q e) ha)];exact I.base.tbls b p q e
 ·obtain ⟨x1,x2,x3,x4,x5⟩:=I.pin p hp
  exact ⟨x1,k (nP p hp) x2,x3,x4,x5⟩
 ·by_cases hb:b=a
  ·subst hb
   rw [z_d] at e
   cases e
   exact hok
  ·rw [z_m hb] at e
   exact (I.hok b u e).stay (fun c v _ q=>q) (fun c q=>by rw [z_m (z_h q ha)];exact q) (fun c xs q=>by rw [z_m (z_h q ha)];exact q) fun c ob xs q=>by rw [z_m (z_h q ha)];exact q
theorem Inv.unname{M:Model}{A:Around}{E:Value->Shared->Prop}{i:Nat}{n:Str}{pos:Pos}{Q:Unit->Shared->Prop}(I:Inv X pins σ H s)(hN:X.N.Nodup)(hi:X.N[i]? = some n)(hl:X.env.kindOf n=some .local)
  (h:∀ s',Inv X pins (σ.set i none) H s'->Q () s'):wpAny M A (do bindName X.env n .none;unbindBehindTheSuite X.env n pos) Q E s:=by
 obtain ⟨m,hn,hv⟩:=id I.loc
 refine wpAny_nameGoes_keeps hl hn (by rw [I.ok.kind];rfl) fun h' v hn' hs=>h _ ?_
 obtain ⟨oL,_,_,hoL,_⟩:=id hn
 have neL:∀ b o,X.s₀.heap.get? b=some o->b≠X.env.locals:=fun b o e=>Nat.ne_of_lt (Nat.lt_of_lt_of_le (Heap.lt_size e) I.ok.above)
 refine ⟨I.ok,I.os,I.bare,⟨fun b o e n hb hx=>?_,fun b o e n hb hx=>?_,I.base.free,fun b o e hx=>?_,I.base.tups,I.base.frzs,I.base.tbls⟩,⟨_,hn',fun j y v' e1 e2 e3=>?_⟩,fun y c e=>?_,I.free,I.freeC,fun p hp=>?_,fun b u e=>?_,by simpa using I.len⟩
 ·exact (hs.2 b (neL b o e)).trans (I.base.keep b o e n hb hx)
 ·obtain ⟨sl,e1⟩:=I.base.slot b o e n hb hx
  exact ⟨sl,(hs.2 b (neL b o e)).trans e1⟩
 ·obtain ⟨o',e1⟩:=I.base.there b o e hx
  exact ⟨o',(hs.2 b (neL b o e)).trans e1⟩
 ·by_cases hj:j=i
  ·subst hj
   rw [List.getElem?_set] at e2
   simp only [if_true] at e2
   split at e2<;>cases e2
  ·rw [List.getElem?_set_ne (Ne.symm hj)] at e2
   obtain ⟨u',r',q⟩:=hv j y v' e1 e2 e3
   refine ⟨u',r',?_⟩
   rcases q with ⟨k,e⟩ | ⟨k,c,e,z⟩
   ·refine .inl ⟨k,?_⟩
    have:y≠n:=fun e=>hj (s_z hN e1 (e▸hi))
    simp [this,e]
   ·exact .inr ⟨k,c,e,z.sameBut hs (I.cne y c e)⟩
 ·obtain ⟨w',z⟩:=I.cell y c e
  exact ⟨w',z.sameBut hs (I.cne y c e)⟩
 ·obtain ⟨e,n,ne,nf,d⟩:=I.pin p hp
  exact ⟨(hs.2 p.1 ne).trans e,n,ne,nf,d⟩
 ·refine (I.hok b u e).stay (fun c w' hc q=>(hs.2 c ?_).trans q) (fun _ q=>q) (fun _ _ q=>q) fun _ _ _ q=>q
  rintro rfl
  rcases hc with rfl | hc
  ·rw [I.free] at e;cases e
  ·rw [I.free] at hc;cases hc
abbrev EH:=St->Value->Hp->Prop
def XE(X:Cx)(p0:List (Addr×Obj))(Eh:EH)(e:Value)(s':Shared):Prop:=∃ (σ:St) (H:Hp) (s:Shared),Inv X p0 σ H s/\CXF X.prog X.w X.stack H s (fun cls _ H'=>Eh σ cls H') e s'
abbrev Cx.tryB(X:Cx)(p0:List (Addr×Obj))(Eh:EH):Cx:={ X with pn:=X.pn++p0,xe:=XE X p0 Eh }
theorem Cx.Ok.toB{Eh:EH}(k:X.Ok):(X.tryB p0 Eh).Ok:=⟨k.mod,k.kind,k.glob,k.blt,k.above,k.inj,k.has,k.cab,k.hd,k.frames,k.gd,k.stk,k.exf,k.bs,k.bsz,k.noex,k.exfs,k.funs,k.frf⟩
theorem Cx.Ok.ofB{Eh:EH}(k:(X.tryB p0 Eh).Ok):X.Ok:=⟨k.mod,k.kind,k.glob,k.blt,k.above,k.inj,k.has,k.cab,k.hd,k.frames,k.gd,k.stk,k.exf,k.bs,k.bsz,k.noex,k.exfs,k.funs,k.frf⟩
theorem Inv.toB{Eh:EH}(I:Inv X p0 σ H s):Inv (X.tryB p0 Eh) [] σ H s:=⟨I.ok.toB,I.os,I.bare,I.base,I.loc,I.cell,I.free,I.freeC,fun p hp=>I.pin p (by simpa using hp),I.hok,I.len⟩
theorem Inv.ofB{Eh:EH}(I:Inv (X.tryB p0 Eh) pins σ H s):Inv X p0 σ H s:=⟨I.ok.ofB,I.os,I.bare,I.base,I.loc,I.cell,I.free,I.freeC,fun p hp=>I.pin p (List.mem_append_left _ hp),I.hok,I.len⟩
theorem SP.ofB{Eh:EH}{D:Ends}{f:Flow}{s':Shared}(h:SP (X.tryB p0 Eh) [] D f s'):SP X p0 D f s':=by
 cases f with
 | next=>obtain ⟨σ',H',I,q⟩:=h;exact ⟨σ',H',I.ofB,q⟩
 | brk=>obtain ⟨σ',H',I,q⟩:=h;exact ⟨σ',H',I.ofB,q⟩
 | cont=>obtain ⟨σ',H',I,q⟩:=h;exact ⟨σ',H',I.ofB,q⟩
 | ret u=>obtain ⟨v,σ',H',I,r,q⟩:=h;exact ⟨v,σ',H',I.ofB,r,q⟩
def tCallX(sp:Sp)(dvs:List V)(Eh:EH)(t:TA):TE:=fun σ H Q=>t σ H fun vs H1=>sp (vs++dvs) H1 Q (fun cls _ H'=>Eh σ cls H')
theorem pe_callX{Eh:EH}{k:Nat}{f:Addr}{fd:FuncData}{ps:List Str}{sp:Sp}{dvs:List V}{ds:List Value}{x:Str}{p pos:Pos}{e:Expr}{es:List Expr}{t:TA}(F:FnOk X.prog X.w X.K X.mg X.base (CXF X.prog X.w) k f fd ps sp)(hr:Room k X.A)(hg:Gl (X.tryB p0 Eh) x)(hm:X.mg x=some (.ref f))(hk:keepIn X.K (.ref f)=true)(hb:Binds X.K fd ps ds)(hd:Vals dvs ds)
  (ha:PA (X.tryB p0 Eh) (e::es) t) (hdb:(x == ("__debug__" : Str))=false:=by decide) (he:starEach (e::es) X.env=(false,eval e X.env)::starEach es X.env:=by rfl) (hpl:(backTo pos (starEach es X.env)).any (·.1)=false:=by rfl) :
  PE (X.tryB p0 Eh) (.Call (.Name x p) (e::es) [] pos) (tCallX sp dvs Eh t):=by
 intro pins s σ H Q I h
 refine wpAny_Call_Name_kw (w_t (X:=X.tryB p0 Eh) I hg hm ?_ hdb)
 refine callWith_K (h₀:=X.base) I.ok.mod.kin hk (thn (ha pos pins s σ H _ I h) fun us s1 z1=>?_) he hpl
 obtain ⟨vs,H1,I1,r,q⟩:=z1
 refine ⟨I1.kIn,?_⟩
 have r2:Vals (vs++dvs) (us++ds):=r.append hd
 have hl:(us++ds).length=ps.length:=by rw [<-r2.length];exact F.len _ _ _ _ q
 refine wpAny_call (codeAny_mono (F.run X.A X.stack s1 H1 ⟨us,[]⟩ (us++ds) (vs++dvs) Q _ hr I1.env0 (hb s1 us I1.kIn hl) r2 q) fun r s' hq=>?_)
 cases r with
 | error e=>exact ⟨σ,H1,s1,I1.ofB,hq⟩
 | ok fl =>
  cases fl with
  | ret u=>exact I1.after hq
  | next=>exact False.elim hq
  | brk=>exact False.elim hq
  | cont=>exact False.elim hq
abbrev Cx.hand(X:Cx)(a:Addr):Cx:={ X with A:=X.A.mark (some (.ref a)),calm:=false,xe:=fun _ _=>False }
theorem Cx.Ok.toH{a:Addr}(k:X.Ok):(X.hand a).Ok:=⟨k.mod,k.kind,k.glob,k.blt,k.above,k.inj,k.has,k.cab,(fun z=>nomatch z),k.frames,k.gd,k.stk,k.exf,k.bs,k.bsz,k.noex,k.exfs,k.funs,k.frf⟩
theorem Inv.toH{a:Addr}(I:Inv X pins σ H s):Inv (X.hand a) pins σ H s:=⟨I.ok.toH,I.os,I.bare,I.base,I.loc,I.cell,I.free,I.freeC,I.pin,I.hok,I.len⟩
theorem Inv.ofH{a:Addr}(k:X.Ok)(I:Inv (X.hand a) pins σ H s):Inv X pins σ H s:=⟨k,I.os,I.bare,I.base,I.loc,I.cell,I.free,I.freeC,I.pin,I.hok,I.len⟩
end
end L2
namespace L2
open PySem PySem.Spec PySem.Calls PyProof.Rows
open PySem.W (KitX kitOne kitAny kia_one kia_tup findIn looks_findIn)
def excQ(K:PySem.W.Frag)(C:Addr):Bool:=findIn K (.ref C) "__getattribute__" == some (some (.builtin "BaseException.__getattribute__"))&&findIn K (.ref C) "__getattr__" == some none&&findIn K (.ref C) "__class__" == some (some (.builtin "object.__class__"))
section
variable {prog:Program} {w:World} {A:Around} {E:Value->Shared->Prop} {h:Heap} {g:Array GenState} {d:PySem.Drawn} {t:Nat} {os:OsState} {a C:Addr} {o:Obj} {K:PySem.W.Frag} {bm:List Value}
theorem t_l{M:Model}{n:Str}{y:Option Value}{Q:Option Value->Shared->Prop}(X:K.In h)(e:findIn K (.ref C) n=some y)(hq:Q y ⟨h,g,d,t,os⟩):wpAny M A (typeLookup (.ref C) n) Q E ⟨h,g,d,t,os⟩:=(looks_findIn X e).at hq
theorem l_b{R:Result->Shared->Prop}(X:K.In h)(q:excK K C bm=true)(hx:h.get? a=some o)(hc:o.cls = .ref C)(hq:R (.ok (.ret (.ref C))) ⟨h,g,d,t,os⟩) :
  codeAny (model prog w) A (.call (.builtin "getset_descriptor.__get__") ⟨[.builtin "object.__class__",.ref a,.ref C],[]⟩) R ⟨h,g,d,t,os⟩:=by
 obtain ⟨N,nm,qn,bs,hd,sn,sub,ab,col,dd,k0,k1,k2,k3,k5,mN,hC,hN,hni,T⟩:=u_o X q
 have hT5:(⟨h,g,d,t,os⟩:Shared).TypeIs (.builtin "object.__class__") "getset_descriptor" := F.typeOf_object_class
 have ow:(".".intercalate ("object.__class__".cutAt '.').dropLast) = "object" := by decide +kernel
 have hcB:(Value.ref C::bm).contains (.type (".".intercalate ("object.__class__".cutAt '.').dropLast))=true:=by
  rw [ow,List.contains_cons,T.hasType (show bmV.contains (.type "object")=true by decide +kernel),Bool.or_true]
 refine codeAny_call_builtin F.slot_gs_get.plain F.entry_gs_get (F.slot_gs_get.check _ _ _ _ _ _ _ _ hT5 (F.args_gs_get _ _ _) ?_)
 repeat (any_goals (first | assumption | (with_reducible refine wpAny_loadPart_at hx ?_;rw [hc]) | (with_reducible refine wpAny_isSubtype_exc hC ?_;rw [hcB]) | wp_step))
 refine ⟨Code.quiet_builtin _ (by decide +kernel),codeAny_builtin F.entry_object_class ?_⟩
 repeat (any_goals (first | assumption | (with_reducible refine wpAny_loadPart_at hx ?_;rw [hc]) | wp_step))
theorem n_l{M:Model}{nameV:Value}{Q:Unit->Shared->Prop}(X:K.In h)(q:excK K C bm=true)(hx:h.get? a=some o)(hc:o.cls = .ref C)(hq:Q () ⟨h,g,d,t,os⟩):wpAny M A (checkBuiltinCall "BaseException.__getattribute__" ⟨[.ref a,nameV],[]⟩) Q E ⟨h,g,d,t,os⟩:=by
 obtain ⟨N,nm,qn,bs,hd,sn,sub,ab,col,dd,k0,k1,k2,k3,k5,mN,hC,hN,hni,T⟩:=u_o X q
 have hk:builtinKind "BaseException.__getattribute__" = some .slot:=by decide +kernel
 have hsplit:splitId "BaseException.__getattribute__" = some ("BaseException", "__getattribute__"):=by decide +kernel
 have hcB:(Value.ref C::bm).contains (.type "BaseException")=true:=by rw [List.contains_cons,T.hasType PySem.F.excBase_ValueError.hasBase,Bool.or_true]
 have ha:=F.args_bexc_ga (.ref a) nameV
 simp only [checkBuiltinCall,hk,hsplit]
 refine wpAny_bind ?_
 ·unfold isInstance
  repeat (first | (with_reducible refine wpAny_loadPart_at hx ?_;rw [hc]) | (with_reducible refine wpAny_isSubtype_exc hC ?_;rw [hcB]) | wp_step)
  exact hq
theorem p_l{tk:Tok}{Q:Fin->Shared->Prop}(X:K.In h)(q:excK K C bm=true)(f3:findIn K (.ref C) "__class__" = some (some (.builtin "object.__class__")))(hx:h.get? a=some o)(hc:o.cls = .ref C)(hq:Q (.done (.ret (.ref C))) ⟨h,g,d,t,os⟩) :
  wpAny (model prog w) A (Builtin.«object.__getattribute__» ⟨[.ref a,.str "__class__" tk],[]⟩) Q E ⟨h,g,d,t,os⟩:=by
 have hT5:(⟨h,g,d,t,os⟩:Shared).TypeIs (.builtin "object.__class__") "getset_descriptor" := F.typeOf_object_class
 have f5:=F.typeOf_object_class
 have f6:=F.slot_gs_get.lookup
 have f7:=F.slot_gs_set.lookup
 repeat (any_goals (first | assumption | (with_reducible refine wpAny_loadPart_at hx ?_;rw [hc]) | with_reducible refine t_l X f3 ?_ | wp_step))
 refine l_b X q hx hc ?_
 repeat (any_goals (first | assumption | wp_step))
theorem n_n{tk:Tok}{R:Result->Shared->Prop}(X:K.In h)(q:excK K C bm=true)(f3:findIn K (.ref C) "__class__" = some (some (.builtin "object.__class__")))(hx:h.get? a=some o)(hc:o.cls = .ref C)(hq:R (.ok (.ret (.ref C))) ⟨h,g,d,t,os⟩) :
  codeAny (model prog w) A (.call (.builtin "BaseException.__getattribute__") ⟨[.ref a,.str "__class__" tk],[]⟩) R ⟨h,g,d,t,os⟩ :=
 codeAny_call_builtin PySem.F.attrBase_ValueError.ga.plain F.entry_bexc_ga (n_l X q hx hc (p_l X q f3 hx hc hq))
theorem cls_by_x{tk:Tok}{fill expr:Bool}{Q:Value->Shared->Prop}(X:K.In h)(q:excK K C bm=true)(q2:excQ K C=true)(hx:h.get? a=some o)(hc:o.cls = .ref C)(hq:Q (.ref C) ⟨h,g,d,t,os⟩) :
  wpAny (model prog w) A (getAttrBy (.ref a) (.str "__class__" tk) fill expr) Q E ⟨h,g,d,t,os⟩:=by
 unfold excQ at q2
 rw [Bool.and_eq_true,Bool.and_eq_true] at q2
 have f1:=beq_iff_eq.mp q2.1.1
 have f2:=beq_iff_eq.mp q2.1.2
 have f4:=beq_iff_eq.mp q2.2
 have f3:=PySem.F.attrBase_ValueError.ga.bind (.ref a)
 have hx0:(expr&&onTheHeap (Value.builtin "BaseException.__getattribute__"))=false:=by cases expr<;>rfl
 have hx2:(Value.builtin "BaseException.__getattribute__" == Value.builtin "object.__getattribute__")=false:=by decide +kernel
 have hx1:(onTheHeap (Value.ref C)&&Value.builtin "BaseException.__getattribute__" == Value.builtin "object.__getattribute__")=false:=by rw [hx2];rfl
 repeat (any_goals (first | assumption | (with_reducible refine wpAny_loadPart_at hx ?_;rw [hc]) | with_reducible refine t_l X f1 ?_ | with_reducible refine t_l X f2 ?_ | wp_step))
 refine n_n X q f4 hx hc ?_
 repeat (any_goals (first | assumption | wp_step))
theorem n_m{Q:Option Value->Shared->Prop}(X:K.In h)(q:excK K C bm=true)(q2:excQ K C=true)(hx:h.get? a=some o)(hc:o.cls = .ref C)(hq:Q (some (.ref C)) ⟨h,g,d,t+1,os⟩):wpAny (model prog w) A (getAttr? (.ref a) "__class__") Q E ⟨h,g,d,t,os⟩:=by
 unfold getAttr? getAttrBy?
 repeat (any_goals (first | assumption | with_reducible apply cls_by_x X q q2 hx hc | wp_step))
end
theorem kitx_x{K:PySem.W.Frag}{a C:Addr}{bm:List Value}(q:excK K C bm=true)(q2:excQ K C=true):KitX K (.ref a) (.ref C) (fun h=>∃ o,h.get? a=some o/\o.cls = .ref C) where
 ty:=fun M h _ ⟨o,h1,h2⟩=>h2▸(PySem.W.Looks.ld h1).andThen .now
 it:=fun _ h X _=>by
  obtain ⟨N,nm,qn,bs,hd,sn,sub,ab,col,dd,k0,k1,k2,k3,k5,mN,hC,hN,hni,T⟩:=u_o X q
  intro A' Q' E' s' k z
  unfold isType loadHead
  exact wpAny_bind (wpAny_loadPart (k _ _ hC) (wpAny_pure z))
 ne:=fun h tp dd its n sl X htp=>by
  obtain ⟨N,nm,qn,bs,hd,sn,sub,ab,col,dd,k0,k1,k2,k3,k5,mN,hC,hN,hni,T⟩:=u_o X q
  refine Bool.eq_false_iff.mpr fun z=>?_
  have e:C=tp:=Value.ref.inj (beq_iff_eq.mp z)
  subst e
  rw [hC] at htp
  have z2:=congrArg Obj.cls (Option.some.inj htp)
  have z2:Value.type "type" = Value.type "tuple" := z2
  injection z2 with z2
  exact absurd z2 (by decide)
 ca:=fun {prog w A E Q s} X p k=>by
  obtain ⟨o,h1,h2⟩:=p
  obtain ⟨h,g,d,t,os⟩:=s
  exact n_m X q q2 h1 h2 k
section
variable {X:Cx}
theorem call_isx{K:PySem.W.Frag}(hK:X.K=K):CallR X (.builtin "isinstance") (fun xs H Q=>∃ (a C:Addr) (bm:List Value) (v:V) (c:Value) (b:Bool),xs=[.ref a,v]/\RelV v c/\(∀ u,RelV v u->u=c)/\H a=some (EXO a (.ref C))/\excK K C bm=true/\excQ K C=true/\kitOne K (.ref C) c=some b/\Q (.bl b) H):=by
 subst hK
 intro pins s σ H xs us Q I r h
 obtain ⟨a,C,bm,v,c,b,rfl,rv,ru,ha,q,q2,e,w⟩:=h
 obtain ⟨u,w',rfl,rx,rt⟩:=vals2 r
 cases (show u=Value.ref a from rx)
 rw [ru w' rt]
 obtain ⟨⟨o,h1,h2⟩,_⟩:=(show ObjOk X.prog X.w H s.heap a (EXO a (.ref C)) from I.hok a _ ha)
 exact kia_one (kitx_x q q2) I.kIn ⟨o,h1,h2⟩ e (fun z=>nomatch z) fun tk=>⟨.bl b,H,I.tok _,rfl,w⟩
def clsV:List V->List Value->Prop:=fun vs cs=>Vals vs cs/\∀ us,Vals vs us->us=cs
theorem clsV.nil:clsV [] []:=⟨.nil,fun us h=>by cases h;rfl⟩
theorem clsV.cons{c:Addr}{vs:List V}{cs:List Value}(h:clsV vs cs):clsV (.ref c::vs) (.ref c::cs):=⟨.cons rfl h.1,fun us z=>by
 cases z with
 | cons z1 z2=>rw [h.2 _ z2,show _=Value.ref c from z1]⟩
theorem r_y{K:PySem.W.Frag}(hK:X.K=K):CallR X (.builtin "isinstance") (fun xs H Q=>∃ (a C p:Addr) (bm:List Value) (vs:List V) (cs:List Value) (b:Bool),xs=[.ref a,.ref p]/\H p=some (.tup vs)/\clsV vs cs/\H a=some (EXO a (.ref C))/\excK K C bm=true/\excQ K C=true/\kitAny K (.ref C) cs=some b/\Q (.bl b) H):=by
 subst hK
 intro pins s σ H xs us Q I r h
 obtain ⟨a,C,p,bm,vs,cs,b,rfl,hp,⟨_,hcs⟩,ha,q,q2,e,w⟩:=h
 obtain ⟨u,w',rfl,rx,rt⟩:=vals2 r
 cases (show u=Value.ref a from rx)
 cases (show w'=Value.ref p from rt)
 obtain ⟨⟨o,h1,h2⟩,_⟩:=(show ObjOk X.prog X.w H s.heap a (EXO a (.ref C)) from I.hok a _ ha)
 obtain ⟨_,its,rv,ob,e1,e2,n,e3⟩:=(show ObjOk X.prog X.w H s.heap p (.tup vs) from I.hok p _ hp)
 have ei:=hcs its rv
 subst ei
 obtain ⟨cl,dd,da,sl⟩:=ob
 dsimp only at e2 e3
 subst e2 e3
 exact kia_tup (kitx_x q q2) I.kIn ⟨o,h1,h2⟩ e1 e (fun z=>nomatch z) fun tk=>⟨.bl b,H,I.tok _,rfl,w⟩
end
end L2
namespace L2
open PySem PySem.Spec PyProof.Rows
section
variable {P:Program} {w:World} {K:PySem.W.Frag} {mg:Str->Option Value} {base:Heap}
theorem Fun.okF{x qual:Str}{st:Stmt}{f:Addr}{fd:FuncData}{N ps:List Str}{k:Nat}{sp:Sp}(F:Fun K x qual st f fd)(S:FnScope N ps (z_k st))(len:∀ vs H Q E,sp vs H Q E->vs.length=ps.length)
  (hbody:∀ (cdv:Value) (A:Around) (outer:List Env) (s:Shared) (H:Hp) (vs:List V) (Q:VK) (E:XK),Room k (A.deeper (envOfC qual (z_k st) s.heap.objs.size f cdv))->sp vs H Q E ->
   ∃ t,PSs (cxOf (CXF P w) P w K mg base N qual (z_k st) f cdv A outer s H E) (x_n st) t/\t { nx:=fun _ H'=>Q .non H',rt:=Q } (start N vs) H):FnOk P w K mg base (CXF P w) (k+1) f fd ps sp:=by
 obtain ⟨oc,od,kV,doc,pm,an,cdv,ct,osl,rfl,lk,hcd⟩:=F.ex
 exact fn_of lk hcd S len fun A outer s H vs Q E hr hsp=>hbody cdv A outer s H vs Q E hr hsp
theorem t_i:bootBuiltins "ValueError" = some (.type "ValueError"):=by decide +kernel
end
end L2
namespace L2
open PySem PySem.Spec PyProof.Rows
section
variable {prog:Program} {w:World} {A:Around} {E:Value->Shared->Prop} {h:Heap} {g:Array GenState} {d:PySem.Drawn} {t:Nat} {os:OsState}
variable {nm q:Str} {C N:Addr} {bs bm bmB:List Value} {hdct:Bool} {sn:List Str} {sub:List Value} {ab:Bool} {col:Option Bool} {dd:Option Addr} {k0 k1 k2 k3 k5:Option Value} {B newId initId:String}
theorem r_q(F:ExcBaseFacts B newId initId bmB)(T:OwnTail h bmB bm){mN:Str->Option Value}{rest:List Value}{fI:Addr}{Q:Fin->Shared->Prop}
  (hC:h.get? C=some (excClassObj nm q C N bs bm hdct sn sub ab col dd k0 k1 k2 k3 k5 newId)) (hn:h.Ns N mN) (hni:mN "__init__" = some (.ref fI)) (hbf:∀ self,PySem.W.Looks (model prog w) h (bindSpecial (.ref fI) self) (.ref fI,[self])) (hrest:rest.length<=sizeLine)
  (hq:codeAny (model prog w) A (.call (.ref fI) ⟨.ref (h.objs.size+1)::rest,[]⟩) (fun r s'=>match r with | .ok (.ret v)=>v = .none/\Q (.done (.ret (.ref (h.objs.size+1)))) s' | .ok _=>False | .error e=>E e s') ⟨(h.push { cls:=.type "tuple",data:=.seq rest.toArray }).push { cls:=.ref C,data:=.fields #[.ref h.objs.size,.none,.none,.none,.bool false,.none] },g,d,t,os⟩) :
  wpAny (model prog w) A (Builtin.«type.__call__» ⟨.ref C::rest,[]⟩) Q E ⟨h,g,d,t,os⟩:=by
 repeat (first | with_reducible refine wpAny_loadPart_at hC ?_ | with_reducible refine wpAny_madeBy_exc hC ?_ | wp_step)
 refine codeAny_call_builtin_code (Code.quiet_builtin _ F.quiet) (wpAny_check_new_subT F T hC ?_)
 refine codeAny_exc_new_subT F T hC ?_ hrest
 show wpAny _ _ _ _ _ _
 have hC₁:=Heap.get?_push_of_some { cls:=.ref C,data:=.fields #[.ref h.objs.size,.none,.none,.none,.bool false,.none] }
  (Heap.get?_push_of_some { cls:=.type "tuple",data:=.seq rest.toArray } hC)
 have hn₁:((h.push { cls:=.type "tuple",data:=.seq rest.toArray }).push { cls:=.ref C,data:=.fields #[.ref h.objs.size,.none,.none,.none,.bool false,.none] }).Ns N mN:=by
  obtain ⟨o,es,ep,e,r⟩:=hn
  exact ⟨o,es,ep,Heap.get?_push_of_some _ (Heap.get?_push_of_some _ e),r⟩
 have hget:((h.push { cls:=.type "tuple",data:=.seq rest.toArray }).push
   { cls:=.ref C,data:=.fields #[.ref h.objs.size,.none,.none,.none,.bool false,.none] }).get? (h.objs.size+1)=some
   { cls:=.ref C,data:=.fields #[.ref h.objs.size,.none,.none,.none,.bool false,.none] }:=by heap_get
 have hcC:(Value.ref C::bm).contains (.ref C)=true:=by simp
 have T₁:=T.keeps (h':=(h.push { cls:=.type "tuple",data:=.seq rest.toArray }).push { cls:=.ref C,data:=.fields #[.ref h.objs.size,.none,.none,.none,.bool false,.none] })
  fun b o e=>Heap.get?_push_of_some _ (Heap.get?_push_of_some _ e)
 unfold isInstance
 repeat (first | with_reducible refine wpAny_loadPart_at hget ?_ | (with_reducible refine wpAny_isSubtype_exc hC₁ ?_;rw [hcC]) | wp_step)
 show wpAny _ _ (typeLookup (.ref C) _) _ _ _
 refine wpAny_typeLookup_tail hC₁ hn₁ T₁ F.mroIs F.init.lookup ?_
 rw [hni]
 dsimp only [Option.orElse]
 refine wpAny_holding (wpAny_bind (hbf _ _ _ _ _ (fun b o e=>Heap.get?_push_of_some _ (Heap.get?_push_of_some _ e)) ?_))
 refine wpAny_bind (wpAny_call (codeAny_mono hq fun r s' z=>?_))
 cases r with
 | error e=>exact z
 | ok fl =>
  cases fl with
  | ret v =>
   obtain ⟨rfl,z⟩:=z
   refine wpAny_pure ?_
   exact wpAny_pure z
  | next=>exact z.elim
  | brk=>exact z.elim
  | cont=>exact z.elim
theorem call_own(F:ExcBaseFacts B newId initId bmB)(T:OwnTail h bmB bm){mN:Str->Option Value}{rest:List Value}{fI:Addr}{R:Result->Shared->Prop}
  (hC:h.get? C=some (excClassObj nm q C N bs bm hdct sn sub ab col dd k0 k1 k2 k3 k5 newId)) (hn:h.Ns N mN) (hni:mN "__init__" = some (.ref fI)) (hbf:∀ self,PySem.W.Looks (model prog w) h (bindSpecial (.ref fI) self) (.ref fI,[self])) (hrest:rest.length<=sizeLine)
  (hq:codeAny (model prog w) (A.under (.builtin "type.__call__" ⟨.ref C::rest,[]⟩)) (.call (.ref fI) ⟨.ref (h.objs.size+1)::rest,[]⟩) (PySem.W.InitBack (h.objs.size+1) R) ⟨(h.push { cls:=.type "tuple",data:=.seq rest.toArray }).push { cls:=.ref C,data:=.fields #[.ref h.objs.size,.none,.none,.none,.bool false,.none] },g,d,t,os⟩) :
  codeAny (model prog w) A (.call (.ref C) ⟨rest,[]⟩) R ⟨h,g,d,t,os⟩:=by
 have f1:=tc_lookup
 have f2:=tc_bind (.ref C)
 have hT:(⟨h,g,d,t,os⟩:Shared).TypeIs (.ref C) "type" := ⟨_,hC,rfl⟩
 refine codeAny_of_tree ?_
 show wpAny _ _ (callAny (.ref C) _) _ _ _
 repeat (any_goals (first | assumption | with_reducible refine wpAny_loadPart_at hC ?_ | wp_step))
 refine ⟨rfl,?_⟩
 refine codeAny_call_builtin_at (Code.quiet_builtin _ (by decide +kernel)) entry_typeCall (wpAny_check_type_call_sub hC (r_q F T hC hn hni hbf hrest ?_))
 refine codeAny_mono hq fun r s' z=>?_
 cases r with
 | error e=>exact z
 | ok fl =>
  cases fl with
  | ret v=>exact z
  | next=>exact z
  | brk=>exact z
  | cont=>exact z
theorem m_q(F:ExcBaseFacts B newId initId bmB)(T:OwnTail h bmB bm){a t0:Addr}{dct:Option Addr}{vs:Array Value}{sl:Array (Option Value)}{x:Value}{R:Result->Shared->Prop}
  (hC:h.get? C=some (excClassObj nm q C N bs bm hdct sn sub ab col dd k0 k1 k2 k3 k5 newId)) (he:h.get? a=some ⟨.ref C,dct,.fields vs,sl⟩) (h0:vs[0]? = some (.ref t0))
  (hq:∀ h',(∀ b o,b≠a->h.get? b=some o->h'.get? b=some o)->h'.get? a=some ⟨.ref C,dct,.fields (vs.setIfInBounds 0 (.ref h.objs.size)),sl⟩->R (.ok (.ret .none)) ⟨h',g,d,t,os⟩) :
  codeAny (model prog w) A (.call (.builtin initId) ⟨[.ref a,x],[]⟩) R ⟨h,g,d,t,os⟩:=by
 refine codeAny_call_builtin F.init.plain F.initEntry (wpAny_check_init_subT F T hC he rfl ?_)
 have he2:=Heap.get?_push_of_some { cls:=.type "tuple",data:=.seq #[x] } he
 wp_walk
 rw [h0]
 refine wpAny_pure (wpAny_bind (wpAny_setField he2 rfl (Array.getElem?_eq_some_iff.mp h0).1 (wpAny_letGo ?_)))
 refine wpAny_pure (hq _ (fun b o n e=>?_) ?_)
 ·exact (Heap.get?_update_other _ _ (Ne.symm n)).trans (Heap.get?_push_of_some _ e)
 ·rw [Heap.get?_update_self _ he2 rfl]
  rfl
end
section
variable {prog:Program} {w:World} {A:Around} {E:Value->Shared->Prop} {h:Heap} {g:Array GenState} {d:PySem.Drawn} {t:Nat} {os:OsState} {K:PySem.W.Frag}
variable {nm q:Str} {C N x Fa:Addr} {bs:List Value} {sn:List Str} {sub:List Value} {ab:Bool} {col:Option Bool} {dd:Option Addr} {k0 k1 k2 k3 k5:Option Value} {newId:String} {mA:Str->Option Value} {name:Str} {v:Value}
open Builtin Builtin.ObjectAttr in
theorem p_i{tk:Tok}{Q:Fin->Shared->Prop}{ns:List Str}(X:K.In h)(fn:PySem.W.findIn K (.ref C) name=some none)
  (hC:h.get? C=some (excClassObj nm q C N bs (.ref Fa::bmV) true sn sub ab col dd k0 k1 k2 k3 k5 newId)) (hxC:x≠C) (I:h.Inst x C mA)
  (hq:∀ h' tk',h'.Inst x C (fun y=>if y=name then some v else mA y) ->
   (∀ b o,b≠x->(∀ o₀ dx,h.get? x=some o₀->o₀.dict=some dx->b≠dx)->h.get? b=some o->h'.get? b=some o) ->
   (∀ o₀,h.get? x=some o₀->∃ o₁,h'.get? x=some o₁/\o₁.cls=o₀.cls/\o₁.data=o₀.data/\o₁.slots=o₀.slots/\(∀ dx,o₀.dict=some dx->o₁.dict=some dx)/\(o₀.dict=none->o₁.dict=some h.objs.size))->Q (.done (.ret .none)) ⟨h',g,d,tk',os⟩) (hw:Within mA ns) (hsz:ns.length<=100) :
  wpAny (model prog w) A (Builtin.«object.__setattr__» ⟨[.ref x,.str name tk,v],[]⟩) Q E ⟨h,g,d,t,os⟩:=by
 obtain ⟨o,hx,hc,hnc,hd⟩:=I
 have hpass:=PySem.F.store_ValueError.passes (.ref x)
 unfold Builtin.«object.__setattr__»
 repeat (first | rw [refuse_eq] | (rw [refuseLoop_ref,refuseLoop_ref,hpass]) | (with_reducible refine wpAny_loadPart_at hx ?_;rw [hc]) | with_reducible refine wpAny_mroOf_exc hC ?_ | with_reducible refine t_l X fn ?_ | wp_step)
 rcases hd with ⟨hdn,hmA⟩ | ⟨dx,hdx,hne,hns⟩
 ·rw [hdn,if_neg (by simp [typeHasDict])]
  split
  ·rename_i hcd
   cases hcd
  split
  ·rename_i c hcd
   exact absurd hcd (hnc c)
  ·have hx₁:(h.push { cls:=.type "dict",data:=.dict #[] }).get? x=some o:=Heap.get?_push_of_some _ hx
   have hxs:x≠h.objs.size:=Nat.ne_of_lt (Heap.lt_size hx)
   refine wpAny_bind (wpAny_alloc' ?_)
   refine wpAny_bind (wpAny_update' hx₁ ?_)
   refine wpAny_pure ?_
   have hgd:((h.push { cls:=.type "dict",data:=.dict #[] }).update x fun o=>{ cls:=o.cls,dict:=some h.objs.size,data:=o.data,slots:=o.slots }).get? h.objs.size
     = some { cls:=.type "dict",data:=.dict #[] } :=
    (Heap.get?_update_ne _ _ _ _ hxs.symm).trans (Heap.get?_push_at rfl rfl)
   have hnd:((h.push { cls:=.type "dict",data:=.dict #[] }).update x fun o=>{ cls:=o.cls,dict:=some h.objs.size,data:=o.data,slots:=o.slots }).Ns h.objs.size (fun _=>none) :=
    ⟨_,#[],_,hgd,rfl,fun e he=>absurd he (by simp),fun _=>rfl⟩
   show wpAny _ _ (storeInDict h.objs.size (.str name tk) name v) _ _ _
   unfold storeInDict newKeyGuard
   refine wpAny_bind (wpAny_pure (wpAny_bind (wpAny_nsSet1 (Heap.Ns1.of_empty hnd) fun h' hn' hs=>?_)))
   obtain ⟨oD,esD,epD,hoD,hdD,hcD⟩:=hn'.count (Within.cons name v Within.nil)
   refine wpAny_bind (wpAny_lookBehind hoD (by rw [hdD];exact pastItsLine_dict (Nat.le_trans hcD (by rw [List.length_cons,List.length_nil,sizeLine_eq];lia))) ?_)
   wp_walk
   have hx':h'.get? x=some { cls:=o.cls,dict:=some h.objs.size,data:=o.data,slots:=o.slots }:=?_
   refine hq h' _ ⟨{ cls:=o.cls,dict:=some h.objs.size,data:=o.data,slots:=o.slots },hx',hc,hnc,.inr ⟨h.objs.size,rfl,hxs.symm,?_⟩⟩ (fun b ob hbx _ hb=>?_)
    (fun o₀ h₀=>by obtain rfl:o=o₀:=Option.some.inj (hx.symm.trans h₀);exact ⟨_,hx',rfl,rfl,rfl,(fun dx e=>by rw [hdn] at e;cases e),fun _=>rfl⟩)
   ·obtain ⟨o',es,ep,e1,e2,e3,eu,e4⟩:=hn'
    exact ⟨o',es,ep,e1,e2,e3,eu,fun y=>by rw [e4 y];by_cases hy:y=name<;>simp [hy,hmA]⟩
   ·exact (hs.2 b (Nat.ne_of_lt (Heap.lt_size hb))).trans ((Heap.get?_update_ne _ _ _ _ hbx).trans (Heap.get?_push_of_some _ hb))
   ·refine (hs.2 x hxs).trans (Heap.get?_update_self _ hx₁ ?_)
    have hfr:=(Heap.get?_some_iff.mp hx).2
    obtain ⟨oc,od,odt,osl⟩:=o
    cases odt<;>first | rfl | exact hfr
 ·rw [hdx]
  refine wpAny_pure ?_
  show wpAny _ _ (storeInDict dx (.str name tk) name v) _ _ _
  unfold storeInDict newKeyGuard
  refine wpAny_bind (wpAny_pure (wpAny_bind (wpAny_nsSet1 hns fun h' hn' hs=>?_)))
  obtain ⟨oD,esD,epD,hoD,hdD,hcD⟩:=hn'.count (Within.cons name v hw)
  refine wpAny_bind (wpAny_lookBehind hoD (by rw [hdD];exact pastItsLine_dict (Nat.le_trans hcD (by rw [List.length_cons,sizeLine_eq];lia))) ?_)
  wp_walk
  refine hq h' _ ⟨o,(hs.2 x hne.symm).trans hx,hc,hnc,.inr ⟨dx,hdx,hne,hn'⟩⟩ (fun b ob _ hbd hb=>?_)
   (fun o₀ h₀=>⟨o₀,(hs.2 x hne.symm).trans h₀,rfl,rfl,rfl,(fun _ e=>e),fun e=>by
    obtain rfl:o=o₀:=Option.some.inj (hx.symm.trans h₀)
    rw [hdx] at e
    cases e⟩)
  exact (hs.2 b (hbd o dx hx hdx)).trans hb
theorem l_a{M:Model}{o:Obj}{nameV:Value}{Q:Unit->Shared->Prop}
  (hC:h.get? C=some (excClassObj nm q C N bs (.ref Fa::bmV) true sn sub ab col dd k0 k1 k2 k3 k5 newId)) (hx:h.get? x=some o) (hc:o.cls = .ref C) (hq:Q () ⟨h,g,d,t,os⟩) :
  wpAny M A (checkBuiltinCall "object.__setattr__" ⟨[.ref x,nameV,v],[]⟩) Q E ⟨h,g,d,t,os⟩:=by
 have SF:=PySem.F.store_ValueError
 have hcB:(Value.ref C :: .ref Fa::bmV).contains (.type "object")=true:=by
  rw [List.contains_cons,List.contains_cons,SF.hasOwner,Bool.or_true,Bool.or_true]
 have ha:=SF.args (.ref x) nameV v
 simp only [checkBuiltinCall,SF.kind,SF.split]
 refine wpAny_bind ?_
 ·unfold isInstance
  repeat (first | (with_reducible refine wpAny_loadPart_at hx ?_;rw [hc]) | (with_reducible refine wpAny_isSubtype_exc hC ?_;rw [hcB]) | wp_step)
  exact hq
theorem s_l{Q:Unit->Shared->Prop}{ns:List Str}(X:K.In h)(fs:PySem.W.findIn K (.ref C) "__setattr__" = some (some (.builtin "object.__setattr__")))(fn:PySem.W.findIn K (.ref C) name=some none)
  (hC:h.get? C=some (excClassObj nm q C N bs (.ref Fa::bmV) true sn sub ab col dd k0 k1 k2 k3 k5 newId)) (hxC:x≠C) (I:h.Inst x C mA)
  (hq:∀ h' tk',h'.Inst x C (fun y=>if y=name then some v else mA y) ->
   (∀ b o,b≠x->(∀ o₀ dx,h.get? x=some o₀->o₀.dict=some dx->b≠dx)->h.get? b=some o->h'.get? b=some o) ->
   (∀ o₀,h.get? x=some o₀->∃ o₁,h'.get? x=some o₁/\o₁.cls=o₀.cls/\o₁.data=o₀.data/\o₁.slots=o₀.slots/\(∀ dx,o₀.dict=some dx->o₁.dict=some dx)/\(o₀.dict=none->o₁.dict=some h.objs.size))->Q () ⟨h',g,d,tk',os⟩) (hw:Within mA ns) (hsz:ns.length<=100) :
  wpAny (model prog w) A (setAttr (.ref x) name v) Q E ⟨h,g,d,t,os⟩:=by
 obtain ⟨o,hx,hc,_⟩:=id I
 have SF:=PySem.F.store_ValueError
 have f3:=SF.slot.bind (.ref x)
 unfold setAttr callSpecial? specialOf
 repeat (any_goals (first | assumption | (with_reducible refine wpAny_loadPart_at hx ?_;rw [hc]) | with_reducible refine t_l X fs ?_ | wp_step))
 refine codeAny_call_builtin SF.slot.plain SF.entry (l_a hC hx hc (p_i X fn hC hxC I (fun h' tk' I' hk hsame=>?_) hw hsz))
 repeat (any_goals (first | assumption | wp_step))
 exact hq h' tk' I' hk hsame
end
open PySem PySem.Spec PyProof.Rows
def excI(K:PySem.W.Frag)(C Fa fI:Addr):Bool:=match K.lookup C with
 | some ⟨.type "type",_,.cls cd,sl⟩=>(match sl.toList with
  | [_,_,_,_,some (.builtin n),_]=>cd.mro == .ref C :: .ref Fa::bmV&&n == "ValueError.__new__" && !cd.hasDel&&cd.hasDict&&PySem.W.tailIn K bmV (.ref Fa::bmV)&&PySem.W.nsOkIn K cd.ns&&nsIn K cd.ns "__init__" == some (some (.ref fI))
  | _=>false)
 | _=>false
theorem own_ns{K:PySem.W.Frag}{h:Heap}{N:Addr}{mg:Str->Option Value}{n:Str}{v:Value}(X:K.In h)(G:h.Ns N mg)(e:nsIn K N n=some (some v)):mg n=some v:=by
 obtain ⟨o,es,ep,ho,hd,_,hf⟩:=G
 unfold nsIn at e
 split at e
 ·rename_i q
  have:=X _ _ q
  rw [ho] at this
  cases this
  cases hd
  split at e
  ·rename_i he
   cases e
   rw [<-hf]
   unfold nsFind findBy
   rw [<-Array.find?_toList,he]
   rfl
  ·split at e<;>cases e
 ·cases e
theorem u_y{K:PySem.W.Frag}{h:Heap}{C Fa fI:Addr}(X:K.In h)(q:excI K C Fa fI=true):∃ (N:Addr) (nm qn:Str) (bs:List Value) (sn:List Str) (sub:List Value) (ab:Bool) (col:Option Bool) (dd:Option Addr) (k0 k1 k2 k3 k5:Option Value) (mN:Str->Option Value),
  h.get? C=some (excClassObj nm qn C N bs (.ref Fa::bmV) true sn sub ab col dd k0 k1 k2 k3 k5 "ValueError.__new__")/\h.Ns N mN/\mN "__init__" = some (.ref fI)/\OwnTail h bmV (.ref Fa::bmV):=by
 unfold excI at q
 split at q
 ·rename_i dd cd sl ho
  split at q
  ·rename_i k0 k1 k2 k3 n k5 hs
   simp only [Bool.and_eq_true,beq_iff_eq,Bool.not_eq_true'] at q
   obtain ⟨⟨⟨⟨⟨⟨hm,rfl⟩,hdel⟩,hdc⟩,ht⟩,hok⟩,hni⟩:=q
   obtain ⟨nm,bs,mro,ns,qn,hd,sn,sub,ab,col,del⟩:=cd
   dsimp only at hm hdel hok hni hdc
   subst hm hdel hdc
   have hsl:sl = #[k0,k1,k2,k3,some (.builtin "ValueError.__new__"),k5]:=by
    obtain ⟨l⟩:=sl
    simp only at hs
    rw [hs]
   subst hsl
   exact ⟨ns,nm,qn,bs,sn,sub,ab,col,dd,k0,k1,k2,k3,k5,_,X _ _ ho,.of_isNs (isNs_of_in X hok),own_ns X (.of_isNs (isNs_of_in X hok)) hni,PySem.W.tail_of_in X ht⟩
  ·cases q
 ·cases q
def XO(a C:Addr)(dx:Option Addr):HO:=.ext fun h=>∃ (t0:Addr) (vs:Array Value) (sl:Array (Option Value)),h.get? a=some ⟨.ref C,dx,.fields vs,sl⟩/\vs[0]? = some (.ref t0)/\vs[1]? = some .none
def DX(d:Addr)(n:Nat):HO:=.ext fun h=>∃ (mA:Str->Option Value) (ns:List Str),h.Ns1 d mA/\Within mA ns/\ns.length<=n
section
variable {P:Program} {w:World} {H:Hp} {h:Heap} {a C d:Addr} {dx:Option Addr} {n:Nat}
theorem XO.ok(e:∃ (t0:Addr) (vs:Array Value) (sl:Array (Option Value)),h.get? a=some ⟨.ref C,dx,.fields vs,sl⟩/\vs[0]? = some (.ref t0)/\vs[1]? = some .none):ObjOk P w H h a (XO a C dx):=by
 obtain ⟨t0,vs,sl,e1,e2,e3⟩:=e
 refine ⟨⟨t0,vs,sl,e1,e2,e3⟩,⟨_,e1⟩,fun h1 h2 z k=>?_⟩
 obtain ⟨t,v,s,z1,z2,z3⟩:=z
 exact ⟨t,v,s,k _ z1,z2,z3⟩
theorem DX.ok{mA:Str->Option Value}{ns:List Str}(e1:h.Ns1 d mA)(e2:Within mA ns)(e3:ns.length<=n):ObjOk P w H h d (DX d n):=by
 refine ⟨⟨mA,ns,e1,e2,e3⟩,?_,fun h1 h2 z k=>?_⟩
 ·obtain ⟨o,_,_,e,_⟩:=e1
  exact ⟨o,e⟩
 ·obtain ⟨mA,ns,⟨o,es,ep,z1,r⟩,z2,z3⟩:=z
  exact ⟨mA,ns,⟨o,es,ep,k _ z1,r⟩,z2,z3⟩
end
section
variable {X:Cx} {e v₁ v₂:Expr} {rest es:List Expr} {te t1 t2:TE} {ts:List TE} {pos:Pos}
def tFmt(te:TE):TE:=fun σ H Q=>te σ H fun x H1=>(∃ s:Str,x = .str s/\s.length<=sizeLine/\Q (.str s) H1)\/(∃ n:Int,x = .int n/\n.natAbs.log2<1920/\Q (.str (toString n)) H1)
theorem pe_fmt(he:PE X e te):PE X (.FormattedValue e (-1) none pos) (tFmt te):=by
 intro pins s σ H Q I h
 refine wpAny_FormattedValue_plain (thn (he pins s σ H _ I h) fun u s1 z=>?_)
 obtain ⟨x,H1,I1,r,q⟩:=z
 rcases q with ⟨y,rfl,hl,q⟩ | ⟨n,rfl,hn,q⟩
 ·obtain ⟨t,rfl⟩:=r
  exact wpAny_formatField_str ⟨.str y,_,I1,⟨_,rfl⟩,q⟩ ⟨.str y,_,I1.tok _,⟨_,rfl⟩,q⟩ hl
 ·obtain ⟨t,rfl⟩:=r
  exact wpAny_formatField_int hn ⟨.str _,_,I1.tok _,⟨_,rfl⟩,q⟩
def tJoins:List TE->Str->TE
 | [],acc=>fun _ H Q=>Q (.str acc) H
 | t::r,acc=>fun σ H Q=>t σ H fun x H1=>∃ y:Str,x = .str y/\(acc++y).length<=sizeLine/\tJoins r (acc++y) σ H1 Q
inductive PJ (X:Cx):List Expr->List TE->Prop
 | nil:PJ X [] []
 | cons {e:Expr} {te:TE} {es:List Expr} {ts:List TE}:PE X e te->PJ X es ts->PJ X (e::es) (te::ts)
theorem joins_ok(h:PJ X es ts):∀ {acc:Str} {pins:List (Addr×Obj)} {s:Shared} {σ:St} {H:Hp} {Q:VK},acc.length<=sizeLine->Inv X pins σ H s->tJoins ts acc σ H Q ->
  Joins (model X.prog X.w) X.A X.xe (evalEach es X.env) acc (fun out s1=>out.length<=sizeLine/\EP X pins σ Q (.str out s1.toks) { s1 with toks:=s1.toks+1 }) s:=by
 induction h with
 | nil=>exact fun hl I q=>⟨hl,.str _,_,I.tok _,⟨_,rfl⟩,q⟩
 | cons he _ ih =>
  intro acc pins s σ H Q hl I q
  refine thn (he pins s σ H _ I q) fun u s1 z=>?_
  obtain ⟨x,H1,I1,r,y,rfl,hz,q⟩:=z
  obtain ⟨t,rfl⟩:=r
  exact ⟨y,t,rfl,hz,ih hz I1 q⟩
theorem pe_join(h:PJ X (v₁::v₂::rest) ts):PE X (.JoinedStr (v₁::v₂::rest) pos) (tJoins ts Str.empty):=fun pins s σ H Q I q=>wpAny_JoinedStr (joins_ok h (Nat.zero_le _) I q)
end
end L2
namespace L2
open PySem PySem.Spec PyProof.Rows
theorem upd_self{H:Hp}{a:Addr}{o:HO}(h:H a=some o):upd H a o=H:=by
 funext b
 by_cases e:b=a
 ·subst e;rw [z_d,h]
 ·rw [z_m e]
section
variable {X:Cx} {F:Addr} {x:Str} {np apos pos:Pos} {e:Expr} {es:List Expr} {t:TA}
def tXi(K:PySem.W.Frag)(t:TA):TE:=fun σ H Q=>t σ H fun vs H1=>∃ (a C Fa fI:Addr) (dx:Option Addr) (v:V),vs=[.ref a,v]/\H1 a=some (XO a C dx)/\excI K C Fa fI=true/\Q .non H1
theorem pe_xinit{pl:Sem Bool}(hg:Gl X x)(hm:X.mg x=some (.ref F))(gm:specialIn X.K (.ref F) "__getattribute__" = some (some (.builtin "type.__getattribute__"))/\readsIn X.K F (.type "type")=true/\findCls X.K (.ref F) (.type "type") "__init__" = some (.val (.builtin "ValueError.__init__")))(ha:PA X (e::es) t)
  (hst:starEach (e::es) X.env=(false,eval e X.env)::starEach es X.env:=by rfl) (hpl:(backTo pos (starEach es X.env)).any (·.1)=false:=by rfl)
  (ht:eval (.Call (.Attribute (.Name x np) "__init__" apos) (e::es) [] pos) X.env=(do
   let ov <-eval (.Name x np) X.env
   standAt apos.atName
   let (f,first) <-holding [ov] (getMethod ov "__init__" pl)
   callWith pos f first (backTo pos (starEach (e::es) X.env)) (backToKw pos (keywordEach [] X.env))):=by rfl) (hdb:(x == ("__debug__" : Str))=false:=by decide) :
  PE X (.Call (.Attribute (.Name x np) "__init__" apos) (e::es) [] pos) (tXi X.K t):=by
 intro pins s σ H Q I h
 refine PySem.W.methodCall_KW (pl:=pl) (w_t I hg hm ?_ hdb) ht
 refine PySem.W.method_cls I.kIn gm.1 (PySem.W.cls_value I.kIn gm.2.1 gm.2.2 rfl ?_)
 have hA:=ha pos pins _ σ H _ (I.tok (s.toks+1)) h
 rw [hst] at hA ⊢
 refine Calls.callWith_builtin (by show (false || (backTo pos (starEach es X.env)).any (·.1))=false;rw [hpl];rfl) (Calls.evalArgs_plain ?_)
 refine thn hA fun us s2 z=>?_
 obtain ⟨vs,H2,I2,r2,a,C,Fa,fI,dx,v,rfl,hx,qi,q⟩:=z
 obtain ⟨u1,u2,rfl,rx,rv⟩:=vals2 r2
 cases (show u1 = .ref a from rx)
 obtain ⟨⟨t0,vs,sl,e1,e2,e3⟩,_⟩:=(show ObjOk X.prog X.w H2 s2.heap a (XO a C dx) from I2.hok a _ hx)
 obtain ⟨N,nm,qn,bs,sn,sub,ab,col,dd,k0,k1,k2,k3,k5,mN,hC,hn,hni,T⟩:=u_y I2.kIn qi
 obtain ⟨hp,g,d,tk,os⟩:=s2
 refine wpAny_call (m_q PySem.F.excBase_ValueError T hC e1 e2 fun h' keep e'=>?_)
 have I3:=I2.write (o:=XO a C dx) (h':=h') (t':=tk) (x:=a) (e:=a) (by rw [hx];trivial) (.inl rfl) keep ⟨_,e'⟩ (XO.ok ⟨hp.objs.size,_,_,e',by
  rw [Array.getElem?_setIfInBounds_self]
  have:=(Array.getElem?_eq_some_iff.mp e2).1
  simp [this],by
  rw [Array.getElem?_setIfInBounds_ne (by decide)]
  exact e3⟩)
 rw [upd_self hx] at I3
 exact ⟨.non,H2,I3,rfl,q⟩
end
section
variable {X:Cx} {o value:Expr} {ta tv:TE} {f:Str} {pos pos':Pos}
def sXf(K:PySem.W.Frag)(ta tv:TE)(f:Str):TS:=fun D σ H=>tv σ H fun _ H1=>ta σ H1 fun x H2=>∃ a C Fa fI:Addr,x = .ref a/\excI K C Fa fI=true/\PySem.W.findIn K (.ref C) "__setattr__" = some (some (.builtin "object.__setattr__"))/\PySem.W.findIn K (.ref C) f=some none /\
 ((H2 a=some (XO a C none)/\∀ dx,H2 dx=none->dx≠a->D.nx σ (upd (upd H2 a (XO a C (some dx))) dx (DX dx 1)))\/(∃ (dx:Addr) (n:Nat),H2 a=some (XO a C (some dx))/\dx≠a/\H2 dx=some (DX dx n)/\n<=50/\D.nx σ (upd H2 dx (DX dx (n+1)))))
theorem k_i(hex:X.ex=[])(ha:PE X o ta)(hv:PE X value tv)(hs:swapsWith value (some (.Attribute o f pos')) pos.line X.env=pure false):PS X (.Assign [.Attribute o f pos'] value pos) (sXf X.K ta tv f):=by
 intro pins s σ H D I h
 refine plainObj_wpAny_Assign_Attribute (thn (hv pins s σ H _ I h) fun u s1 z=>?_) hs
 obtain ⟨y,H1,I1,ry,q⟩:=z
 refine thn (ha pins s1 σ H1 _ I1 q) fun ov s2 z=>?_
 obtain ⟨x,H2,I2,rx,a,C,Fa,fI,rfl,qi,fs,fn,q2⟩:=z
 obtain rfl:ov=Value.ref a:=rx
 obtain ⟨N,nm,qn,bs,sn,sub,ab,col,dd,k0,k1,k2,k3,k5,mN,hC,hn,hni,T⟩:=u_y I2.kIn qi
 rcases q2 with ⟨hx,q2⟩ | ⟨dx,n,hx,hne,hd,hn50,q2⟩
 ·obtain ⟨⟨t0,vs,sl,e1,e2,e3⟩,_⟩:=(show ObjOk X.prog X.w H2 s2.heap a (XO a C none) from I2.hok a _ hx)
  have haC:a≠C:=fun z=>by
   rw [z,hC] at e1
   have:=congrArg Obj.data (Option.some.inj e1)
   cases this
  have fr:=I2.hok.fresh (Nat.le_refl s2.heap.objs.size)
  have hasz:s2.heap.objs.size≠a:=Nat.ne_of_gt (Heap.lt_size e1)
  obtain ⟨hp,g,d,tk,os⟩:=s2
  refine s_l (mA:=fun _=>none) (ns:=[]) I2.kIn fs fn hC haC ⟨_,e1,rfl,(fun c z=>by cases z),.inl ⟨rfl,fun _=>rfl⟩⟩ (fun h' tk' I' hk hsame=>?_) Within.nil (by decide)
  obtain ⟨o₁,g1,g2,g3,g4,_,g5⟩:=hsame _ e1
  have g6:=g5 rfl
  clear g5
  obtain ⟨c1,c2,c3,c4⟩:=o₁
  dsimp only at g2 g3 g4 g6
  subst g2 g3 g4 g6
  obtain ⟨o',i1,i2,i3,i4⟩:=I'
  rw [g1] at i1
  cases i1
  rcases i4 with ⟨i4,_⟩ | ⟨dx,i4,i5,i6⟩
  ·cases i4
  cases i4
  have I3:=I2.write (o:=XO a C (some hp.objs.size)) (h':=h') (t':=tk') (x:=a) (e:=a) (by rw [hx];trivial) (.inl rfl) (fun b u nb e=>hk b u nb (fun o₀ dx e e'=>by
   rw [e1] at e
   cases e
   cases e') e) ⟨_,g1⟩ (XO.ok ⟨t0,vs,_,g1,e2,e3⟩)
  have lt:∀ b o,hp.get? b=some o->b≠hp.objs.size:=fun b o e=>Nat.ne_of_lt (Heap.lt_size e)
  have I4:=I3.track (a:=hp.objs.size) (o:=DX hp.objs.size 1) (by rw [z_m hasz];exact fr) (DX.ok i6 (Within.cons f u Within.nil) (Nat.le_refl _)) ?_ ?_ ?_ ?_
  ·exact ⟨_,_,I4,q2 _ fr hasz⟩
  ·cases z:X.s₀.heap.get? hp.objs.size with
   | none=>rfl
   | some ob =>
    obtain ⟨o',e'⟩:=I2.base.there _ ob z (by rw [hex];simp)
    exact absurd rfl (lt _ _ e')
  ·obtain ⟨m,⟨oL,_,_,hoL,_⟩,_⟩:=I2.loc
   exact (lt _ _ hoL).symm
  ·intro y c hy z
   obtain ⟨v,ob,ho,_⟩:=I2.cell y c hy
   exact lt _ _ ho z
  ·intro p hp' z
   exact lt _ _ (I2.pin p hp').1 z
 ·obtain ⟨⟨t0,vs,sl,e1,e2,e3⟩,_⟩:=(show ObjOk X.prog X.w H2 s2.heap a (XO a C (some dx)) from I2.hok a _ hx)
  obtain ⟨⟨mA,ns,d1,d2,d3⟩,_⟩:=(show ObjOk X.prog X.w H2 s2.heap dx (DX dx n) from I2.hok dx _ hd)
  have haC:a≠C:=fun z=>by
   rw [z,hC] at e1
   have:=congrArg Obj.data (Option.some.inj e1)
   cases this
  obtain ⟨hp,g,d,tk,os⟩:=s2
  refine s_l (mA:=mA) (ns:=ns) I2.kIn fs fn hC haC ⟨_,e1,rfl,(fun c z=>by cases z),.inr ⟨dx,rfl,hne,d1⟩⟩ (fun h' tk' I' hk hsame=>?_) d2 (by lia)
  obtain ⟨o₁,g1,g2,g3,g4,g5,_⟩:=hsame _ e1
  have g6:=g5 _ rfl
  clear g5
  obtain ⟨c1,c2,c3,c4⟩:=o₁
  dsimp only at g2 g3 g4 g6
  subst g2 g3 g4 g6
  obtain ⟨o',i1,i2,i3,i4⟩:=I'
  rw [g1] at i1
  cases i1
  rcases i4 with ⟨i4,_⟩ | ⟨dx',i4,i5,i6⟩
  ·cases i4
  cases i4
  have I3:=I2.write (o:=DX dx (n+1)) (h':=h') (t':=tk') (x:=dx) (e:=dx) (by rw [hd];trivial) (.inl rfl) (fun b ob nb e=>by
   by_cases z:b=a
   ·subst z
    rw [e1] at e
    cases e
    exact g1
   ·exact hk b ob z (fun o₀ dy e' e''=>by
     rw [e1] at e'
     cases e'
     cases e''
     exact nb) e) (by
   obtain ⟨ob,_,_,e,_⟩:=i6
   exact ⟨ob,e⟩) (DX.ok i6 (Within.cons f u d2) (by rw [List.length_cons];lia))
  exact ⟨_,_,I3,q2⟩
end
end L2
namespace L2
open PySem PySem.Spec PyProof.Rows
open PySem.W (hideAll hideAll_get hideAll_none of_hideAll funFrames_hide)
def offH(H:Hp)(a:Addr):Hp:=fun b=>if b=a then none else H b
theorem w_i{H:Hp}{a b:Addr}(n:b≠a):offH H a b=H b:=if_neg n
theorem t_w{H:Hp}{a:Addr}:offH H a a=none:=if_pos rfl
section
variable {X:Cx} {pins:List (Addr×Obj)} {σ:St} {H:Hp} {s:Shared} {E:XK} {a C:Addr} {dx:Option Addr}
theorem q_s{E2:Value->Shared->Prop}(I:Inv X pins σ H s)(hst:X.stack=X.env::X.outer)(hfr:X.env.frame=some X.env.locals)(hex:X.ex=[])(ha:H a=some (XO a C dx))(n0:X.s₀.heap.get? a=none)(q:E (.ref C) none (offH H a)) :
  wpAny (model X.prog X.w) X.A (leaving X.env (.ref a)) (fun _ s''=>CXF X.prog X.w X.outer X.H₀ X.s₀ E (.ref a) s'') E2 s:=by
 have FF:=I.stack
 have inF:∀ env∈X.stack,∀ b,env.frame=some b->b∈a::frs X.stack:=fun env he b hb=>List.mem_cons_of_mem _ (List.mem_filterMap.mpr ⟨env,he,hb⟩)
 obtain ⟨⟨t0,vs,sl,e1,e2,e3⟩,_⟩:=(show ObjOk X.prog X.w H s.heap a (XO a C dx) from I.hok a _ ha)
 have haf:a∉frs X.stack:=fun z=>by rw [I.stkFree a z] at ha;cases ha
 refine wpAny_leaving_firstW (base:=hideAll s.heap (a::frs X.stack)) (by rw [I.ok.frames,hst]) (by have:=funFrames_hide FF inF;rw [hst] at this ⊢;exact this) hfr e1 (fun b o q=>of_hideAll _ q) (hideAll_none _ List.mem_cons_self) rfl e3 e2 fun h2 hL=>?_
 obtain ⟨k1,_,k3,k4⟩:=hL
 have keep:∀ b o,s.heap.get? b=some o->b≠a->b∉frs X.stack->h2.get? b=some o:=fun b o e n1 n2=>k1 b o (hideAll_get _ e fun z=>by
  rcases List.mem_cons.mp z with z | z
  ·exact n1 z
  ·exact n2 z)
 have slot:∀ b o,s.heap.get? b=some o->b∈frs X.stack->(∃ sl,h2.get? b=some { o with slots:=sl })/\∀ vs,o.data ≠ .fields vs:=fun b o e hb=>by
  obtain ⟨_,o',ho',hd⟩:=FF.mem hb
  rw [e] at ho'
  cases ho'
  exact ⟨k4 b o e hd,hd⟩
 obtain ⟨oe,vs',T2,oT,ts,x1,x2,x3,x4,x5,x6,x7,x8,x9⟩:=k3
 have na:∀ b o,H b=some o->(∀ φ,o ≠ .ext φ)->b≠a:=fun b o e n z=>by
  rw [z,ha] at e
  exact n _ (Option.some.inj e).symm
 have u2:Un (frs X.stack) [] H (offH H a) s.heap h2:=by
  refine ⟨fun b o e n hb _=>keep b o e (fun z=>by rw [z,ha] at n;cases n) hb,fun b o e n hb _=>(slot b o e hb).1,fun b o e n _=>?_,fun b o e _=>?_,fun b xs q=>?_,fun b o u q=>?_,fun b p q' q=>?_⟩
  ·by_cases z:b=a
   ·rw [z];exact t_w
   ·rw [w_i z];exact n
  ·by_cases hb:b∈frs X.stack
   ·obtain ⟨⟨sl,e2⟩,_⟩:=slot b o e hb
    exact ⟨_,e2⟩
   ·by_cases z:b=a
    ·rw [z];exact ⟨_,x1⟩
    ·exact ⟨o,keep b o e z hb⟩
  ·rw [w_i (na b _ q fun φ z=>by cases z)];exact q
  ·rw [w_i (na b _ q fun φ z=>by cases z)];exact q
  ·rw [w_i (na b _ q fun φ z=>by cases z)];exact q
 have trk:∀ b v,H b=some v->b∉frs X.stack:=fun b v e z=>by rw [I.stkFree b z] at e;cases e
 have hok2:HOk X.prog X.w (offH H a) h2:=fun c v e=>by
  have hca:c≠a:=fun z=>by rw [z,t_w] at e;cases e
  rw [w_i hca] at e
  exact (I.hok c v e).stay (fun b z hb q=>by
   rcases hb with rfl | hb
   ·exact keep b z q hca (trk b v e)
   ·exact keep b z q (na b _ hb fun φ z=>by cases z) (trk b _ hb)) (fun b q=>by rw [w_i (na b _ q fun φ z=>by cases z)];exact q) (fun b xs q=>by rw [w_i (na b _ q fun φ z=>by cases z)];exact q) fun b o u q=>by rw [w_i (na b _ q fun φ z=>by cases z)];exact q
 have J2:Inv X pins σ (offH H a) { s with heap:=h2 }:=I.call' (s':={ s with heap:=h2 }) rfl u2 hok2 I.bare (fun b hb=>absurd hb (by simp))
 have hb2:=J2.base
 rw [hex] at hb2
 have old:∀ b,s.heap.get? b=none->X.s₀.heap.get? b=none:=fun b hb=>by
  cases z:X.s₀.heap.get? b with
  | none=>rfl
  | some o =>
   obtain ⟨o',e'⟩:=I.base.there b o z (by rw [hex];simp)
   rw [hb] at e'
   cases e'
 have nT:s.heap.get? T2=none:=by
  cases z:s.heap.get? T2 with
  | none=>rfl
  | some o =>
   exfalso
   by_cases hb:T2∈frs X.stack
   ·obtain ⟨⟨sl,e2⟩,hd⟩:=slot T2 o z hb
    rw [e2] at x7
    cases x7
    exact hd ts x8
   ·rw [hideAll_get _ z (fun y=>by
     rcases List.mem_cons.mp y with y | y
     ·exact x6 y
     ·exact hb y)] at x5
    cases x5
 have unT:offH H a T2=none:=by
  rw [w_i x6]
  cases z:H T2 with
  | none=>rfl
  | some v =>
   obtain ⟨ob,e'⟩:=(I.hok T2 v z).ex
   rw [nT] at e'
   cases e'
 exact ⟨a,.ref C,offH H a,rfl,J2.os,J2.bare,hb2,hok2,⟨⟨oe,vs',T2,oT,ts,_,x1,x2,x3,x4,x6,x7,x8,x9,old _ nT,unT⟩,n0,t_w⟩,q⟩
end
def RaisesO(X:Cx)(E:XK):Prop:=∀ (pins:List (Addr×Obj)) (σ:St) (H:Hp) (s:Shared) (a C:Addr) (dx:Option Addr),Inv X pins σ H s->H a=some (XO a C dx)->X.s₀.heap.get? a=none->E (.ref C) none (offH H a)->X.xe (.ref a) s
theorem raisesO{P:Program}{w:World}{K:PySem.W.Frag}{mg:Str->Option Value}{base:Heap}{N:List Str}{qual:Str}{scope:Scope}{f:Addr}{cd:Value}{A:Around}{outer:List Env}{s:Shared}{H:Hp}{E:XK} :
  RaisesO (cxOf (CXF P w) P w K mg base N qual scope f cd A outer s H E) E:=fun pins σ H1 s1 a C dx I ha n0 q=>q_s I rfl rfl rfl ha n0 q
section
variable {M:Model} {A:Around} {E:Value->Shared->Prop} {env:Env} {nm q:Str} {C N:Addr} {bs bm:List Value} {hdct:Bool} {sn:List Str} {sub:List Value} {ab:Bool} {col:Option Bool} {dd:Option Addr} {k0 k1 k2 k3 k5:Option Value} {newId:String}
theorem r_j{s:Shared}{x:Sem Value}{Q:Flow->Shared->Prop}(hbase:bm.contains (.type "BaseException")=true)(hh:A.handled=none)
  (h:wpAny M A x (fun v s₁=>∃ (e:Addr) (dx:Option Addr) (vs:Array Value) (sl:Array (Option Value)),v = .ref e/\s₁.heap.get? C=some (excClassObj nm q C N bs bm hdct sn sub ab col dd k0 k1 k2 k3 k5 newId)/\s₁.heap.get? e=some ⟨.ref C,dx,.fields vs,sl⟩/\vs[1]? = some .none/\E (.ref e) s₁) E s) :
  wpAny M A (raiseStmt env (some x) none) Q E s:=by
 have hcB:(Value.ref C::bm).contains (.type "BaseException")=true:=by rw [List.contains_cons,hbase,Bool.or_true]
 unfold raiseStmt
 refine wpAny_bind (wpAny_mono h (fun v s₁ h₁=>?_) fun _ _ x=>x)
 obtain ⟨e,dx,vs,sl,rfl,hC,he,h1,hE⟩:=h₁
 obtain ⟨hp,g,d,tk,os⟩:=s₁
 repeat (first | with_reducible refine wpAny_loadPart_at he ?_ | with_reducible refine wpAny_loadPart_at hC ?_ | (with_reducible refine wpAny_isSubtype_exc hC ?_;rw [hcB]) | wp_step)
 rw [h1]
 refine wpAny_pure ?_
 rw [if_neg (by decide)]
 exact wpAny_pure (wpAny_raiseNew_none hh hE)
end
section
variable {X:Cx} {E:XK} {C Fa f:Addr} {k:Nat} {fd:FuncData} {ps:List Str} {sp:Sp} {x:Str} {np cpos pos:Pos} {e₀:Expr} {rest:List Expr} {t:TA}
def sRaiseI(C:Addr)(sp:Sp)(E:XK)(t:TA):TS:=fun D σ H=>t σ H fun vs H1=>vs.length<=100/\∀ a,H1 a=none->sp (.ref a::vs) (upd H1 a (XO a C none)) (fun v H2=>v = .non/\(∃ dx,H2 a=some (XO a C dx))/\E (.ref C) none (offH H2 a)) E0
theorem s_d(hc:X.calm=true)(hex:X.ex=[])(hR:RaisesO X E)(F:FnOk X.prog X.w X.K X.mg X.base CX0 k f fd ps sp)(hr:Room (k+1) X.A)(hb:Binds X.K fd ps [])(hg:Gl X x)(hm:X.mg x=some (.ref C))(qi:excI X.K C Fa f=true)(hf:typeIn X.K (.ref f)=some (.type "function"))(ha:PA X (e₀::rest) t)
  (he:starEach (e₀::rest) X.env=(false,eval e₀ X.env)::starEach rest X.env:=by rfl) (hplain:(backTo cpos (starEach rest X.env)).any (·.1)=false:=by rfl) (hdb:(x == ("__debug__" : Str))=false:=by decide) :
  PS X (.Raise (some (.Call (.Name x np) (e₀::rest) [] cpos)) none pos) (sRaiseI C sp E t):=by
 intro pins s σ H D I h
 obtain ⟨N,nm,qn,bs,sn,sub,ab,col,dd,k0,k1,k2,k3,k5,mN,hC,hn,hni,T⟩:=u_y I.mod.kin qi
 have hbase:(Value.ref Fa::bmV).contains (.type "BaseException")=true:=by rw [List.contains_cons,show bmV.contains (.type "BaseException")=true by decide +kernel,Bool.or_true]
 have hpl:(backTo cpos (starEach (e₀::rest) X.env)).any (·.1)=false:=by rw [he];show (false || (backTo cpos (starEach rest X.env)).any (·.1))=false;rw [hplain];rfl
 rw [arm_exec_Raise]
 refine wpAny_bind (wpAny_standAt (r_j (C:=C) (nm:=nm) (q:=qn) (N:=N) (bs:=bs) (bm:=.ref Fa::bmV) (hdct:=true) (sn:=sn) (sub:=sub) (ab:=ab) (col:=col) (dd:=dd) (k0:=k0) (k1:=k1) (k2:=k2) (k3:=k3) (k5:=k5) (newId := "ValueError.__new__") hbase (I.ok.hd hc) (wpAny_bind (wpAny_mono (wpAny_Call_ofName (w_t I hg hm ?_ hdb)) (fun v s₃ h₃=>wpAny_bind (wpAny_standAt (wpAny_pure h₃))) fun _ _ x=>x))))
 have h1:=ha cpos pins s σ H _ I h
 rw [he] at h1 hpl ⊢
 unfold callWith
 refine wpAny_bind (wpAny_holding (Calls.evalArgs_plain (thn h1 fun us s2 z=>wpAny_bind (wpAny_standAt ?_))))
 obtain ⟨vs,H2,I2,r,lv,q⟩:=z
 have hC2:=I2.bk _ _ hC
 have hn2:=hn.keeps I2.bk
 have T2:=T.keeps I2.bk
 have fr1:=I2.hok.fresh (Nat.le_succ s2.heap.objs.size)
 have hq:=q _ fr1
 have old:X.s₀.heap.get? (s2.heap.objs.size+1)=none:=by
  cases z:X.s₀.heap.get? (s2.heap.objs.size+1) with
  | none=>rfl
  | some ob =>
   obtain ⟨o',e'⟩:=I2.base.there _ ob z (by rw [hex];simp)
   exact absurd (Heap.lt_size e') (Nat.not_lt.mpr (Nat.le_succ _))
 obtain ⟨hp,g,d,tk,os⟩:=s2
 simp only [hpl]
 refine wpAny_bind (wpAny_keeperOf_exc hC2 ?_)
 have hget:((hp.push { cls:=.type "tuple",data:=.seq us.toArray }).push { cls:=.ref C,data:=.fields #[.ref hp.objs.size,.none,.none,.none,.bool false,.none] }).get? (hp.objs.size+1)=some { cls:=.ref C,data:=.fields #[.ref hp.objs.size,.none,.none,.none,.bool false,.none] }:=by heap_get
 have I3:=I2.laid (o:=XO (hp.objs.size+1) C none) (t':=tk) (h':=(hp.push { cls:=.type "tuple",data:=.seq us.toArray }).push { cls:=.ref C,data:=.fields #[.ref hp.objs.size,.none,.none,.none,.bool false,.none] }) (fun b o e=>Heap.get?_push_of_some _ (Heap.get?_push_of_some _ e)) (Nat.le_succ _) (XO.ok ⟨_,_,_,hget,rfl,rfl⟩)
 have r2:Vals (V.ref (hp.objs.size+1)::vs) (Value.ref (hp.objs.size+1)::us):=.cons rfl r
 have hl:(Value.ref (hp.objs.size+1)::us++[]).length=ps.length:=by
  rw [List.append_nil,<-r2.length]
  exact F.len _ _ _ _ hq
 refine wpAny_bind (wpAny_call (call_own PySem.F.excBase_ValueError T2 hC2 hn2 hni (fun self=>PySem.W.bind_fn I2.kIn self hf) (by show us.length<=sizeLine;rw [<-r.length];exact Nat.le_trans lv (by decide)) (codeAny_mono (F.run _ X.stack _ _ ⟨Value.ref (hp.objs.size+1)::us,[]⟩ (Value.ref (hp.objs.size+1)::us) _ _ E0 (hr.make C us []) (I3.env0.make C us []) (by have:=hb _ (Value.ref (hp.objs.size+1)::us) I3.kIn hl;rw [List.append_nil] at this;exact this) r2 hq) fun r s' hq'=>?_)))
 cases r with
 | error e=>exact False.elim hq'
 | ok fl =>
  cases fl with
  | ret u =>
   obtain ⟨v,H',I4,rv,ev,⟨dx,hx⟩,q3⟩:=I3.after hq'
   subst ev
   refine ⟨rv,wpAny_bind (wpAny_holding (wpAny_point (wpAny_pure ?_)))⟩
   obtain ⟨⟨t0,vs',sl,e1,e2,e3⟩,_⟩:=(show ObjOk X.prog X.w H' s'.heap (hp.objs.size+1) (XO (hp.objs.size+1) C dx) from I4.hok _ _ hx)
   exact ⟨hp.objs.size+1,dx,vs',sl,rfl,I4.bk _ _ hC,e1,e3,hR pins σ H' s' _ C dx I4 hx old q3⟩
  | next=>exact False.elim hq'
  | brk=>exact False.elim hq'
  | cont=>exact False.elim hq'
end
end L2
namespace L2
open PySem PySem.Spec PyProof.Rows
open PySem.W (hideAll hideAll_get hideAll_none of_hideAll funFrames_hide)
def ExcC(K:PySem.W.Frag)(C:Addr)(bm:List Value):Prop:=∀ h,K.In h->∃ (N:Addr) (nm qn:Str) (bs:List Value) (hd:Bool) (sn:List Str) (sub:List Value) (ab:Bool) (col:Option Bool) (dd:Option Addr) (k0 k1 k2 k3 k5:Option Value),
 h.get? C=some (excClassObj nm qn C N bs bm hd sn sub ab col dd k0 k1 k2 k3 k5 "ValueError.__new__")/\OwnTail h bmV bm
theorem ExcC.ofK{K:PySem.W.Frag}{C:Addr}{bm:List Value}(q:excK K C bm=true):ExcC K C bm:=fun h X=>by
 obtain ⟨N,nm,qn,bs,hd,sn,sub,ab,col,dd,k0,k1,k2,k3,k5,mN,hC,hN,hni,T⟩:=u_o X q
 exact ⟨N,nm,qn,bs,hd,sn,sub,ab,col,dd,k0,k1,k2,k3,k5,hC,T⟩
theorem ExcC.ofI{K:PySem.W.Frag}{C Fa fI:Addr}(q:excI K C Fa fI=true):ExcC K C (.ref Fa::bmV):=fun h X=>by
 obtain ⟨N,nm,qn,bs,sn,sub,ab,col,dd,k0,k1,k2,k3,k5,mN,hC,hN,hni,T⟩:=u_y X q
 exact ⟨N,nm,qn,bs,true,sn,sub,ab,col,dd,k0,k1,k2,k3,k5,hC,T⟩
theorem o_n{M:Model}{A:Around}{E:Value->Shared->Prop}{K:PySem.W.Frag}{C F:Addr}{bm bf:List Value}{a:Addr}{oe:Obj}{s:Shared}{Q:Bool->Shared->Prop}(KX:K.In s.heap)(qC:ExcC K C bm)(qF:ExcC K F bf)(he:s.heap.get? a=some oe)(hc:oe.cls = .ref C)
  (hq:Q ((Value.ref C::bm).contains (.ref F)) s):wpAny M A (excMatches (.ref a) (.ref F)) Q E s:=by
 obtain ⟨N,nm,qn,bs,hd,sn,sub,ab,col,dd,k0,k1,k2,k3,k5,hC,T⟩:=qC _ KX
 obtain ⟨N',nm',qn',bs',hd',sn',sub',ab',col',dd',j0,j1,j2,j3,j5,hF,T'⟩:=qF _ KX
 have hB:(Value.ref F::bf).contains (.type "BaseException")=true:=by
  rw [List.contains_cons,T'.hasType PySem.F.excBase_ValueError.hasBase,Bool.or_true]
 generalize hb:(Value.ref C::bm).contains (.ref F)=b at hq
 obtain ⟨hp,g,d,tk,os⟩:=s
 have f:=tc_notTuple
 unfold excMatches
 repeat (first | (with_reducible refine wpAny_loadPart_at he ?_;rw [hc]) | with_reducible refine wpAny_loadPart_at hF ?_ | with_reducible refine wpAny_loadPart_at hC ?_ | (with_reducible refine wpAny_isSubtype_exc hF ?_;rw [hB]) | (with_reducible refine wpAny_isSubtype_exc hC ?_;rw [hb]) | wp_step)
 cases b with
 | true =>
  repeat (first | exact hq | wp_step)
 | false =>
  repeat (first | exact hq | wp_step)
abbrev THs:=Ends->EH
def hNone:THs:=fun _ _ _ _=>False
def hPlain(K:PySem.W.Frag)(F:Addr)(ts:TS)(tr:THs):THs:=fun D σ cls H=>∃ (C:Addr) (bm:List Value) (b:Bool),cls = .ref C/\ExcC K C bm/\(Value.ref C::bm).contains (.ref F)=b/\if b=true then ts D σ H else tr D σ cls H
def hNamed(K:PySem.W.Frag)(F:Addr)(i:Nat)(ts:TS)(tr:THs):THs:=fun D σ cls H=>∃ (C:Addr) (bm:List Value) (b:Bool),cls = .ref C/\ExcC K C bm/\(Value.ref C::bm).contains (.ref F)=b /\
 if b=true then ∀ a,H a=none->ts { nx:=fun σ' H'=>D.nx (σ'.set i none) H',rt:=D.rt,bk:=fun σ' H'=>D.bk (σ'.set i none) H',ct:=fun σ' H'=>D.ct (σ'.set i none) H' } (σ.set i (some (.ref a))) (upd H a (EXO a cls)) else tr D σ cls H
inductive PHs (X:Cx):List ExceptHandler->THs->Prop
 | nil:PHs X [] hNone
 | plain {x:Str} {F:Addr} {bf:List Value} {np hpos:Pos} {b₀:Stmt} {suite:List Stmt} {ts:TS} {rest:List ExceptHandler} {tr:THs}:Gl X x->X.mg x=some (.ref F)->ExcC X.K F bf->(x == ("__debug__" : Str))=false->(∀ a,PSs (X.hand a) (b₀::suite) ts)->PHs X rest tr ->
   PHs X (.ExceptHandler (some (.Name x np)) none (b₀::suite) hpos::rest) (hPlain X.K F ts tr)
 | named {x n:Str} {F:Addr} {bf:List Value} {np hpos:Pos} {b₀:Stmt} {suite:List Stmt} {ts:TS} {rest:List ExceptHandler} {tr:THs} {i:Nat}:Gl X x->X.mg x=some (.ref F)->ExcC X.K F bf->(x == ("__debug__" : Str))=false->X.N.Nodup->X.N[i]? = some n->X.env.scope.names.lookup n=some .local->(∀ a,PSs (X.hand a) (b₀::suite) ts)->PHs X rest tr ->
   PHs X (.ExceptHandler (some (.Name x np)) (some n) (b₀::suite) hpos::rest) (hNamed X.K F i ts tr)
section
variable {X:Cx}
theorem hands_ok(hst:X.stack=X.env::X.outer)(hfr:X.env.frame=some X.env.locals)(hex:X.ex=[]){pins:List (Addr×Obj)}{D:Ends}{σ1:St}{H1 H':Hp}{s2 s1:Shared}{a T:Addr}{cls a0:Value}{h5:Heap}
  (I2:Inv X pins σ1 H1 s2) (os:s1.os=s2.os) (bare:AllBare s1.gens) (u:Un (frs X.stack) [] H1 H' s2.heap s1.heap) (hok:HOk X.prog X.w H' s1.heap) (Fl:Fly a cls s2.heap H' s1.heap) (nT:s2.heap.get? T=none) (hT:H' T=none)
  (hfl5:Heap.FlyingW (hideAll s1.heap (a::T::frs X.stack)) X.stack a cls a0 h5) (up45:s1.heap.UpToSlots h5) {hs:List ExceptHandler} {th:THs} (ph:PHs X hs th):th D σ1 cls H' ->
  wpAny (model X.prog X.w) X.A (handleBy (.ref a) X.env hs) (SP X pins D) X.xe { s1 with heap:=h5 }:=by
 have J:Inv X pins σ1 H' s1:=I2.call' os u hok bare (fun b hb=>absurd hb (by simp))
 obtain ⟨u5,hok5,F5⟩:=s_x J.stack u hok J.stkFree Fl.un hT Fl.new nT hfl5 up45
 have J5:Inv X pins σ1 H' { s1 with heap:=h5 }:=I2.call' (s':={ s1 with heap:=h5 }) os u5 hok5 bare (fun b hb=>absurd hb (by simp))
 obtain ⟨oe,he,hc⟩:=hfl5.there
 induction ph with
 | nil=>exact fun z=>z.elim
 | plain hg hm qF hdb hs _ ih =>
  rintro ⟨C,bm,b,rfl,qC,hb,z⟩
  refine wpAny_handleBy_cons (codeAny_handlers_test (w_t (X:=X.hand a) J5.toH hg hm ?_ hdb)) (by intro q;cases q)
  refine o_n J5.kIn qC qF he hc ?_
  rw [hb]
  cases b with
  | false=>exact ih z
  | true =>
   replace z:=(if_pos rfl).mp z
   refine codeAny_handlers_suite ?_
   refine lands_againW hfl5 fun h6 hfl6 up6=>?_
   obtain ⟨u6,hok6,F6⟩:=s_x J.stack u hok J.stkFree Fl.un hT Fl.new nT hfl6 (up45.trans up6)
   have J6:Inv X pins σ1 H' { s1 with heap:=h6 }:=I2.call' (s':={ s1 with heap:=h6 }) os u6 hok6 bare (fun b hb=>absurd hb (by simp))
   refine wpAny_mono (hs a pins _ _ _ _ J6.toH z) (fun f s9 z=>?_) fun _ _ z=>z.elim
   cases f with
   | next=>obtain ⟨σ',H9,I9,w⟩:=z;exact ⟨_,_,I9.ofH J.ok,w⟩
   | brk=>obtain ⟨σ',H9,I9,w⟩:=z;exact ⟨_,_,I9.ofH J.ok,w⟩
   | cont=>obtain ⟨σ',H9,I9,w⟩:=z;exact ⟨_,_,I9.ofH J.ok,w⟩
   | ret v=>obtain ⟨v',σ',H9,I9,r,w⟩:=z;exact ⟨_,_,_,I9.ofH J.ok,r,w⟩
 | named hg hm qF hdb hN hi hl hs _ ih =>
  rintro ⟨C,bm,b,rfl,qC,hb,z⟩
  refine wpAny_handleBy_cons (codeAny_handlers_test (w_t (X:=X.hand a) J5.toH hg hm ?_ hdb)) (by intro q;cases q)
  refine o_n J5.kIn qC qF he hc ?_
  rw [hb]
  cases b with
  | false=>exact ih z
  | true =>
   refine codeAny_handlers_suite_as ?_
   refine lands_againW hfl5 fun h6 hfl6 up6=>?_
   obtain ⟨u6,hok6,F6⟩:=s_x J.stack u hok J.stkFree Fl.un hT Fl.new nT hfl6 (up45.trans up6)
   have J6:Inv X pins σ1 H' { s1 with heap:=h6 }:=I2.call' (s':={ s1 with heap:=h6 }) os u6 hok6 bare (fun b hb=>absurd hb (by simp))
   obtain ⟨oe6,he6,hc6⟩:=hfl6.there
   obtain ⟨_,_,_,oe7,vs7,_,_,_,x1,_,x3,_⟩:=hfl6
   have old:X.s₀.heap.get? a=none:=by
    cases z:X.s₀.heap.get? a with
    | none=>rfl
    | some o =>
     obtain ⟨o',e'⟩:=I2.base.there a o z (by rw [hex];simp)
     rw [Fl.new] at e'
     cases e'
   have J7:Inv X pins σ1 (upd H' a (EXO a (.ref C))) { s1 with heap:=h6 }:=by
    refine J6.track F6.un ⟨⟨oe6,he6,hc6⟩,⟨oe6,he6⟩,fun h1 h2 ⟨o,e1,e2⟩ kk=>⟨o,kk o e1,e2⟩⟩ old ?_ ?_ ?_
    ·rintro rfl
     obtain ⟨m,⟨oL,es,ep,hoL,hd,_⟩,_⟩:=J6.loc
     rw [x1] at hoL
     cases hoL
     rw [x3] at hd
     cases hd
    ·rintro y c hy rfl
     obtain ⟨v,o,ho,hd⟩:=J6.cell y c hy
     rw [x1] at ho
     cases ho
     rw [x3] at hd
     cases hd
    ·rintro p hp rfl
     have:=(I2.pin p hp).1
     rw [Fl.new] at this
     cases this
   refine r_p (v:=.ref a) J7 hN hi (.inl hl) rfl (fun s8 J8=>?_) (.inr hl)
   refine wpAny_mono (hs a pins s8 _ _ _ J8.toH ((if_pos rfl).mp z a F6.un)) (fun f s9 z=>?_) fun _ _ z=>z.elim
   cases f with
   | next=>obtain ⟨σ',H9,I9,w⟩:=z;exact (I9.ofH J.ok).unname hN hi hl fun s' I'=>⟨_,_,I',w⟩
   | brk=>obtain ⟨σ',H9,I9,w⟩:=z;exact (I9.ofH J.ok).unname hN hi hl fun s' I'=>⟨_,_,I',w⟩
   | cont=>obtain ⟨σ',H9,I9,w⟩:=z;exact (I9.ofH J.ok).unname hN hi hl fun s' I'=>⟨_,_,I',w⟩
   | ret v=>obtain ⟨v',σ',H9,I9,r,w⟩:=z;exact (I9.ofH J.ok).unname hN hi hl fun s' I'=>⟨_,_,_,I',r,w⟩
def sTryN(th:THs)(tb:EH->TS):TS:=fun D σ H=>tb (th D) D σ H
theorem ps_tryN{body:List Stmt}{h₀:ExceptHandler}{hs:List ExceptHandler}{pos:Pos}{tb:EH->TS}{th:THs}(hst:X.stack=X.env::X.outer)(hfr:X.env.frame=some X.env.locals)(hex:X.ex=[])(hb:∀ p0 Eh,PSs (X.tryB p0 Eh) body (tb Eh))(ph:PHs X (h₀::hs) th) :
  PS X (.Try body (h₀::hs) [] [] pos) (sTryN th tb):=by
 intro pins s σ H D I h
 refine wpAny_Try_except (wpAny_mono (hb pins (th D) [] s σ H D I.toB h) (fun f s1 z=>?_) (fun e s1 z=>?_))
 ·have z:=z.ofB
  cases f with
  | next=>exact wpAny_execs_nil z
  | brk=>exact z
  | cont=>exact z
  | ret u=>exact z
 ·obtain ⟨σ1,H1,s2,I2,a,cls,H',rfl,os,bare,u,hok,Fl,k⟩:=z
  have J:Inv X pins σ1 H' s1:=I2.call' os u hok bare (fun b hb=>absurd hb (by simp))
  obtain ⟨T,a0,hfl,nT,hT⟩:=o_o J.stack Fl
  rw [hst] at hfl
  refine wpAny_looks_onW (by rw [J.ok.frames,hst]) hfr hfl fun h4 held up4=>?_
  refine wpAny_landsW held fun h5 hfl5 up5=>?_
  rw [<-hst] at hfl5
  exact hands_ok hst hfr hex I2 os bare u hok Fl nT hT hfl5 (up4.trans up5) ph k
end
open PySem
theorem PS.nox{X:Cx}{st:Stmt}{t:TS}(h:PS X.nox st t):PS X st t:=fun pins s σ H D I hw =>
 wpAny_mono (h pins s σ H D (I.wish _) hw) (fun _ _ q=>q.unwish) fun _ _ z=>False.elim z
def GAl(R:Nat->Nat)(goals:List (Nat×Nat)):Prop:=∀ q∈goals,R q.1=R q.2
def Szs(A B:Wk):Prop:=A.ins=B.ins/\A.outs.length=B.outs.length
instance (A B:Wk):Decidable (Szs A B):=inferInstanceAs (Decidable (_/\_))
structure PapX(W:Wk)(kept goals:List (Nat×Nat))(R:Nat->Nat):Prop where
 kb:∀ q∈kept,q.1<2*W.knots/\q.2<2*W.knots
 st:StartsOk W kept
 nx:NextsOk W kept []
 nw:KRun W.knots id kept R
 gb:∀ q∈goals,q.1<2*W.knots/\q.2<2*W.knots
def t_f:Sp:=fun vs H Q _=>∃ (net o p:Addr) (wh:Str),vs=[.ref net,.ref o,.ref p,.str wh]/\StpsA H p []/\Q .non H
def s_t:Sp:=fun vs H Q _=>∃ (w b g o kp sp:Addr) (W:Wk) (kept:List (Nat×Nat)),vs=[.ref w,.ref kp,.ref sp]/\IsWkA H w b g o W/\W.Ok/\W.knots<=400/\PrsA H kp kept/\StpsA H sp []/\StartsOk W kept/\∀ H',Same H H'->Q .non H'
def p_f:Sp:=fun vs H Q _=>∃ (w b g o kp sp:Addr) (W:Wk) (kept:List (Nat×Nat)),vs=[.ref w,.ref kp,.ref sp]/\IsWkA H w b g o W/\W.Ok/\W.knots<=400/\PrsA H kp kept/\StpsA H sp []/\NextsOk W kept []/\∀ H',Same H H'->Q .non H'
def n_g(CN:Addr):Sp:=fun vs H Q E=>∃ (w b g o kp gp sp:Addr) (W:Wk) (kept goals:List (Nat×Nat)) (R:Nat->Nat),vs=[.ref w,.ref kp,.ref gp,.ref sp]/\IsWkA H w b g o W/\W.Ok/\W.knots<=400/\PrsA H kp kept/\PrsA H gp goals/\StpsA H sp []/\KRun W.knots id kept R/\(∀ q∈goals,q.1<2*W.knots/\q.2<2*W.knots) /\
 (GAl R goals->∀ H',Same H H'->Q .non H')/\(¬GAl R goals->∀ H',Same H H'->E (.ref CN) none H')
def p_g(CN:Addr):Sp:=fun vs H Q E=>∃ (w b g o gp p:Addr) (W:Wk) (kept goals:List (Nat×Nat)) (R:Nat->Nat),vs=[.ref w,.ref gp,.ref p]/\IsWkA H w b g o W/\W.Ok/\W.knots<=400/\PrsA H gp goals/\PaperA H p kept [] []/\PapX W kept goals R /\
 (GAl R goals->∀ H',Same H H'->Q .non H')/\(¬GAl R goals->∀ H',Same H H'->E (.ref CN) none H')
def n_h(CP:Addr):Sp:=fun vs H Q E=>∃ (w b g o w' b' g' o':Addr) (A B:Wk),vs=[.ref w,.ref w']/\IsWkA H w b g o A/\IsWkA H w' b' g' o' B/\(Szs A B->Q .non H)/\(¬Szs A B->E (.ref CP) none H)
structure TwoX(H:Hp)(A B:Wk)(p:Addr)(goals kept:List (Nat×Nat))(R:Nat->Nat):Prop where
 ok:(bes A B).Ok
 kn:(bes A B).knots<=400
 pa:PaperA H p kept [] []
 go:gI goals=(A.outs.zip B.outs).map fun q=>(F1 A B q.1,F2 A B q.2)
 px:PapX (bes A B) kept goals R
def k_t(CP CN:Addr):Sp:=fun vs H Q E=>∃ (w b g o w' b' g' o':Addr) (A B:Wk) (pv:V),vs=[.ref w,.ref w',pv]/\IsWkA H w b g o A/\IsWkA H w' b' g' o' B/\A.Ok/\B.Ok/\(¬Szs A B->E (.ref CP) none H) /\
 (Szs A B->∃ p goals kept R,pv = .ref p/\TwoX H A B p goals kept R/\(GAl R goals->∀ H',Same H H'->Q .non H')/\(¬GAl R goals->∀ H',Same H H'->E (.ref CN) none H'))
def p_x(C:Addr):Sp:=fun vs H Q _=>∃ (a:Addr) (s:Str),vs=[.ref a,.str s,.int 0]/\H a=some (XO a C none)/\s.length<=20/\∀ d,H d=none->d≠a->Q .non (upd (upd (upd H a (XO a C (some d))) d (DX d 1)) d (DX d 2))
theorem PaperA.same{H H':Hp}{p:Addr}{kept:List (Nat×Nat)}{s2 s3:List Stp}(h:PaperA H p kept s2 s3)(s:Same H H'):PaperA H' p kept s2 s3:=by
 obtain ⟨a1,a2,a3,a4,h,h1,h2,h3,h4⟩:=h
 exact ⟨a1,a2,a3,a4,s _ _ h,h1.same s,h2.same s,h3.same s,h4.same s⟩
theorem same_off{H H1:Hp}{a d:Addr}{x y z u:HO}(s:Same H H1)(ha:H1 a=none)(hd:upd H1 a x d=none)(n:d≠a):Same H (offH (upd (upd (upd (upd H1 a x) a y) d z) d u) a):=fun b o e=>by
 have e1:=s _ _ e
 have na:b≠a:=fun h=>by rw [h,ha] at e1;cases e1
 have nd:b≠d:=fun h=>by rw [h] at e1;rw [z_m n] at hd;rw [hd] at e1;cases e1
 rw [w_i na,z_m nd,z_m nd,z_m na,z_m na]
 exact e1
theorem xo_at{H1:Hp}{a d:Addr}{x y z u:HO}(n:d≠a):(upd (upd (upd (upd H1 a x) a y) d z) d u) a=some y:=by
 rw [z_m n.symm,z_m n.symm,z_d]
def bxW(A:Wk)(os:List Int):Wk:=⟨A.ins,(List.range A.boxes.length).map fun j=>((A.boxes.getD j (0,0)).1,((2*(1+A.ins+j):Nat):Int)),[],os⟩
def bxE(A:Wk):List Int:=(List.range A.boxes.length).map fun j=>((2*(1+A.ins+j):Nat):Int)
def bxK(A:Wk):List (Nat×Nat):=(List.range A.boxes.length).map fun j=>(2*(1+A.ins+j),2*(1+A.ins+j)+2*A.boxes.length)
section
variable {A:Wk} {os:List Int}
theorem w_d:(bxW A os).boxes.length=A.boxes.length:=by show (List.map _ _).length=_;rw [List.length_map,List.length_range]
theorem u_x:(bxW A os).knots=1+A.ins+A.boxes.length:=by show 1+A.ins+(bxW A os).boxes.length+0=_;rw [w_d];rfl
theorem m_w(ok:A.Ok)(h:∀ e∈os,e∈bxE A)(hl:os.length<=20):(bxW A os).Ok:=by
 have hb:=ok.boxes
 refine ⟨ok.ins,by rw [w_d];exact hb,Nat.zero_le _,hl,fun k g h=>?_,fun b hb=>?_,fun o ho=>?_⟩
 ·have:([]:List (Int×Int))[k]? = some g:=h
  simp at this
 ·obtain ⟨j,hj,rfl⟩:=List.mem_map.mp (show b∈(List.range A.boxes.length).map _ from hb)
  have hj:=List.mem_range.mp hj
  rw [u_x]
  refine ⟨?_,by show (0:Int)<=((2*(1+A.ins+j):Nat):Int);lia,by show ((2*(1+A.ins+j):Nat):Int)<_;lia⟩
  rw [List.getD_eq_getElem?_getD,List.getElem?_eq_getElem hj]
  exact (ok.box _ (List.getElem_mem hj)).1
 ·obtain ⟨j,hj,rfl⟩:=List.mem_map.mp (h o ho)
  have hj:=List.mem_range.mp hj
  rw [u_x]
  exact ⟨by lia,by lia⟩
theorem eM_id(e:Nat):eM id e=e:=by unfold eM;show 2*(e/2)+e%2=e;lia
theorem o_i:Twn (bxW A os) (bxW A os) id:=⟨rfl,rfl,fun _ _=>rfl,fun j h=>absurd h (Nat.not_lt_zero _),fun _ j _ h=>absurd h (Nat.not_lt_zero _),fun j a b h=>by
  have:([]:List (Int×Int))[j]? = some _:=h
  simp at this,fun k f e h=>by rw [eM_id];exact h,fun k e h=>by rw [eM_id];exact h,rfl⟩
theorem m_v:kpN (bxW A os) (k1 (bxW A os) (bxW A os)) (fun k=>k2 (bxW A os) (bxW A os) (id k))=bxK A:=by
 unfold kpN bxK
 rw [w_d]
 refine List.ext_getElem? fun j=>?_
 rw [List.getElem?_map,List.getElem?_map]
 by_cases h:j<A.boxes.length
 ·rw [List.getElem?_range' h,List.getElem?_range h]
  obtain ⟨e1,e2⟩:=o_v (o_i (A:=A) (os:=os)) (k:=j) (by rw [w_d];exact h)
  show some (2*k1 (bxW A os) (bxW A os) (1+A.ins+1*j),2*k2 (bxW A os) (bxW A os) (1+A.ins+1*j))=some (2*(1+A.ins+j),2*(1+A.ins+j)+2*A.boxes.length)
  have e1:k1 (bxW A os) (bxW A os) (1+A.ins+j)=1+A.ins+j:=e1
  have e2:k2 (bxW A os) (bxW A os) (1+A.ins+j)=1+A.ins+((bxW A os).boxes.length+j):=e2
  rw [Nat.one_mul,e1,e2,w_d]
  congr 2
  lia
 ·rw [List.getElem?_eq_none (by rw [List.length_range'];lia),List.getElem?_eq_none (by rw [List.length_range];lia)]
  rfl
end
def bxS(A:Wk)(s:Nat->Nat):List Int:=(List.range A.boxes.length).map fun j=>((2*(1+A.ins+s j):Nat):Int)
def bxG(A:Wk)(s:Nat->Nat):List (Nat×Nat):=(List.range A.boxes.length).map fun j=>(2*(1+A.ins+j),2*(1+A.ins+A.boxes.length+s j))
def bxR(A:Wk):Nat->Nat:=rE A.ins (k1 (bxW A []) (bxW A [])) (fun k=>k2 (bxW A []) (bxW A []) (id k)) (1+A.ins+A.boxes.length)
theorem bxS_id(A:Wk):bxE A=bxS A id:=rfl
theorem bxS_rev(A:Wk):(bxE A).reverse=bxS A fun j=>A.boxes.length-1-j:=by
 refine List.ext_getElem? fun j=>?_
 unfold bxE bxS
 by_cases h:j<A.boxes.length
 ·rw [List.getElem?_reverse (by rw [List.length_map,List.length_range];exact h),List.length_map,List.length_range,List.getElem?_map,List.getElem?_map,List.getElem?_range (by lia),List.getElem?_range h]
  rfl
 ·rw [List.getElem?_eq_none (by rw [List.length_reverse,List.length_map,List.length_range];lia),List.getElem?_eq_none (by rw [List.length_map,List.length_range];lia)]
section
variable {A:Wk} {s:Nat->Nat}
theorem u_n:(bxS A s).length=A.boxes.length:=by unfold bxS;rw [List.length_map,List.length_range]
theorem m_u(hs:∀ j,j<A.boxes.length->s j<A.boxes.length){e:Int}(h:e∈bxS A s):e∈bxE A:=by
 obtain ⟨j,hj,rfl⟩:=List.mem_map.mp h
 exact List.mem_map.mpr ⟨s j,List.mem_range.mpr (hs j (List.mem_range.mp hj)),rfl⟩
theorem bx_k{x:Nat}(h:x<A.boxes.length):k1 (bxW A []) (bxW A []) (1+A.ins+x)=1+A.ins+x/\k2 (bxW A []) (bxW A []) (1+A.ins+x)=1+A.ins+A.boxes.length+x:=by
 obtain ⟨e1,e2⟩:=o_v (o_i (A:=A) (os:=[])) (k:=x) (by rw [w_d];exact h)
 refine ⟨e1,e2.trans ?_⟩
 rw [w_d]
 show 1+A.ins+(A.boxes.length+x)=_
 lia
theorem t_j{os os':List Int}:(bes (bxW A os) (bxW A os')).knots=1+A.ins+2*A.boxes.length:=by
 rw [r_s,nB_is,w_d,w_d]
 show 1+A.ins+(A.boxes.length+A.boxes.length)+(0+0)=_
 lia
theorem bx_gal(hs:∀ j,j<A.boxes.length->s j<A.boxes.length):GAl (bxR A) (bxG A s)↔∀ j,j<A.boxes.length->s j=j:=by
 have W:=(o_i (A:=A) (os:=[])).now
 have hk:(bxW A []).knots=1+A.ins+A.boxes.length:=u_x
 have ev:∀ (f:Nat->Nat) (x:Nat),eM f (2*x)=2*f x:=fun f x=>by unfold eM;rw [show 2*x/2=x by lia,show 2*x%2=0 by lia];rfl
 have key:∀ x,x<A.boxes.length->bxR A (2*(1+A.ins+x))=2*(1+A.ins+x)/\bxR A (2*(1+A.ins+A.boxes.length+x))=2*(1+A.ins+x):=fun x hx=>by
  obtain ⟨e1,e2⟩:=bx_k hx
  have a1:=rE_p W (j:=1+A.ins+A.boxes.length) (e:=2*(1+A.ins+x)) (by lia) (by lia)
  have a2:=rE_t W (j:=1+A.ins+A.boxes.length) (e:=2*(1+A.ins+x)) (by lia) (by lia)
  rw [ev,ev] at a2
  rw [ev] at a1
  have e2':k2 (bxW A []) (bxW A []) (id (1+A.ins+x))=1+A.ins+A.boxes.length+x:=e2
  rw [e1] at a1 a2
  rw [e2'] at a2
  exact ⟨a1,a2⟩
 constructor
 ·intro h j hj
  have:=h (2*(1+A.ins+j),2*(1+A.ins+A.boxes.length+s j)) (List.mem_map.mpr ⟨j,List.mem_range.mpr hj,rfl⟩)
  have z:bxR A (2*(1+A.ins+j))=bxR A (2*(1+A.ins+A.boxes.length+s j)):=this
  rw [(key j hj).1,(key _ (hs j hj)).2] at z
  lia
 ·intro h q hq
  obtain ⟨j,hj,rfl⟩:=List.mem_map.mp hq
  have hj:=List.mem_range.mp hj
  show bxR A (2*(1+A.ins+j))=bxR A (2*(1+A.ins+A.boxes.length+s j))
  rw [h j hj,(key j hj).1,(key j hj).2]
theorem bx_papX(ok:A.Ok)(h8:A.boxes.length<=8)(hs:∀ j,j<A.boxes.length->s j<A.boxes.length):PapX (bes (bxW A (bxE A)) (bxW A (bxS A s))) (bxK A) (bxG A s) (bxR A):=by
 have T:=o_i (A:=A) (os:=[])
 have ok0:(bxW A []).Ok:=m_w ok (fun e h=>absurd h List.not_mem_nil) (Nat.zero_le _)
 have okb:(bes (bxW A []) (bxW A [])).Ok:=m_t ok0 ok0 rfl (by rw [w_d];lia) (by show 0+0<=2000;lia) (by show 0+0<=20;lia)
 have hkn:=t_j (A:=A) (os:=bxE A) (os':=bxS A s)
 have kb:∀ q∈bxK A,q.1<2*(1+A.ins+2*A.boxes.length)/\q.2<2*(1+A.ins+2*A.boxes.length):=fun q hq=>by
  obtain ⟨j,hj,rfl⟩:=List.mem_map.mp hq
  have hj:=List.mem_range.mp hj
  exact ⟨by show 2*(1+A.ins+j)<_;lia,by show 2*(1+A.ins+j)+2*A.boxes.length<_;lia⟩
 have st:=k_u T ok0 okb
 have nx:=nexts_ok T ok0 okb
 rw [m_v] at st nx
 refine ⟨by rw [hkn];exact kb,st,nx,?_,fun q hq=>?_⟩
 ·have W:=T.now
  have hk:(bxW A []).knots=1+A.ins+A.boxes.length:=u_x
  have:=krun W A.boxes.length (A.ins+1) (by show A.ins<A.ins+1;lia) (by show A.ins+1+A.boxes.length<=(bxW A []).knots;lia)
  have e0:rE (bxW A []).ins (k1 (bxW A []) (bxW A [])) (fun k=>k2 (bxW A []) (bxW A []) (id k)) (A.ins+1)=id:=n_a
  rw [e0] at this
  have e1:(List.range' (A.ins+1) A.boxes.length).map (fun k=>(2*k1 (bxW A []) (bxW A []) k,2*(fun k=>k2 (bxW A []) (bxW A []) (id k)) k))=bxK A:=by
   rw [<-m_v (A:=A) (os:=[])]
   unfold kpN
   rw [w_d,show A.ins+1=1+(bxW A []).ins from Nat.add_comm _ _]
  rw [e1,show A.ins+1+A.boxes.length=1+A.ins+A.boxes.length by lia] at this
  rw [hkn]
  have hb:nB (bxW A []) (bxW A [])=1+A.ins+2*A.boxes.length:=by rw [<-r_s,t_j]
  rw [hb] at this
  exact this
 ·obtain ⟨j,hj,rfl⟩:=List.mem_map.mp hq
  have hj:=List.mem_range.mp hj
  have:=hs j hj
  rw [hkn]
  exact ⟨by show 2*(1+A.ins+j)<_;lia,by show 2*(1+A.ins+A.boxes.length+s j)<_;lia⟩
theorem bx_goals(hs:∀ j,j<A.boxes.length->s j<A.boxes.length):gI (bxG A s)=((bxW A (bxE A)).outs.zip (bxW A (bxS A s)).outs).map fun q=>(F1 (bxW A (bxE A)) (bxW A (bxS A s)) q.1,F2 (bxW A (bxE A)) (bxW A (bxS A s)) q.2):=by
 show gI (bxG A s)=((bxE A).zip (bxS A s)).map fun q=>(F1 (bxW A []) (bxW A []) q.1,F2 (bxW A []) (bxW A []) q.2)
 refine List.ext_getElem? fun j=>?_
 unfold gI bxG
 rw [List.map_map,List.getElem?_map,List.getElem?_map]
 have ev:∀ (f:Nat->Nat) (x:Nat),eM f (2*x)=2*f x:=fun f x=>by unfold eM;rw [show 2*x/2=x by lia,show 2*x%2=0 by lia];rfl
 by_cases h:j<A.boxes.length
 ·have z:((bxE A).zip (bxS A s))[j]? = some (((2*(1+A.ins+j):Nat):Int),((2*(1+A.ins+s j):Nat):Int)):=by
   refine List.getElem?_zip_eq_some.mpr ⟨?_,?_⟩
   ·unfold bxE;rw [List.getElem?_map,List.getElem?_range h];rfl
   ·unfold bxS;rw [List.getElem?_map,List.getElem?_range h];rfl
  rw [List.getElem?_range h,z]
  show some (((2*(1+A.ins+j):Nat):Int),((2*(1+A.ins+A.boxes.length+s j):Nat):Int))=some (F1 (bxW A []) (bxW A []) ((2*(1+A.ins+j):Nat):Int),F2 (bxW A []) (bxW A []) ((2*(1+A.ins+s j):Nat):Int))
  rw [F1_nat,F2_nat,ev,ev,(bx_k h).1,(bx_k (hs j h)).2]
 ·rw [List.getElem?_eq_none (by rw [List.length_range];lia),List.getElem?_eq_none (by rw [List.length_zip,u_n];unfold bxE;rw [List.length_map,List.length_range];lia)]
  rfl
theorem m_x{H:Hp}{p:Addr}(ok:A.Ok)(h8:A.boxes.length<=8)(hs:∀ j,j<A.boxes.length->s j<A.boxes.length)(hp:PaperA H p (bxK A) [] []):TwoX H (bxW A (bxE A)) (bxW A (bxS A s)) p (bxG A s) (bxK A) (bxR A):=by
 have l1:(bxE A).length<=8:=by rw [bxS_id,u_n];exact h8
 have l2:(bxS A s).length<=8:=by rw [u_n];exact h8
 have o1:(bxW A (bxE A)).Ok:=m_w ok (fun e h=>h) (by lia)
 have o2:(bxW A (bxS A s)).Ok:=m_w ok (fun e h=>m_u hs h) (by lia)
 have hi:=ok.ins
 refine ⟨m_t o1 o2 rfl (by rw [w_d,w_d];lia) (by show 0+0<=2000;lia) (by show (bxE A).length+(bxS A s).length<=20;lia),by rw [t_j];lia,hp,bx_goals hs,bx_papX ok h8 hs⟩
end
def Mkd(te:TE):Prop:=∀ (σ:St) (H:Hp) (Q:VK),(∀ v H',Same H H'->Q v H')->te σ H Q
def MkdA(n:Nat)(ta:TA):Prop:=∀ (σ:St) (H:Hp) (N:List V->Hp->Prop),(∀ vs H',vs.length=n->Same H H'->N vs H')->ta σ H N
theorem Mkd.c(v:V):Mkd (tC v):=fun σ H Q q=>q _ _ (Same.refl H)
theorem MkdA.nil:MkdA 0 tNil:=fun σ H N q=>q [] H rfl (Same.refl H)
theorem MkdA.cons{te:TE}{ta:TA}{n:Nat}(h:Mkd te)(hr:MkdA n ta):MkdA (n+1) (tCons te ta):=fun σ H N q=>h σ H _ fun v H1 s1=>hr σ H1 _ fun vs H2 hl s2=>q (v::vs) H2 (by rw [List.length_cons,hl]) (s1.trans s2)
theorem Mkd.tup{ta:TA}{n:Nat}(h:MkdA n ta)(hn:n<=sizeLine):Mkd (tTup ta):=fun σ H Q q=>h σ H _ fun vs H1 hl s1=>⟨by rw [hl];exact hn,fun p hp=>q _ _ (s1.trans (z_f hp _))⟩
theorem Mkd.lst{ta:TA}{n:Nat}(h:MkdA n ta)(hn:n<=sizeLine):Mkd (tLst ta):=fun σ H Q q=>h σ H _ fun vs H1 hl s1=>⟨by rw [hl];exact hn,fun p hp=>q _ _ (s1.trans (z_f hp _))⟩
theorem mk_e4:MkdA 4 (tCons (tLst tNil) (tCons (tLst tNil) (tCons (tLst tNil) (tCons (tLst tNil) tNil)))):=.cons (.lst .nil (by decide)) (.cons (.lst .nil (by decide)) (.cons (.lst .nil (by decide)) (.cons (.lst .nil (by decide)) .nil)))
theorem mk_e3:MkdA 3 (tCons (tLst tNil) (tCons (tLst tNil) (tCons (tLst tNil) tNil))):=.cons (.lst .nil (by decide)) (.cons (.lst .nil (by decide)) (.cons (.lst .nil (by decide)) .nil))
theorem MkdA.asg{r:R2}{ta:TA}{ti:TE}{g:TG}{rest:TS}{D:Ends}{n:Nat}{σ:St}{H:Hp}(h:MkdA n ta)(hn:n<=sizeLine)(q:∀ vs H',vs.length=n->Same H H'->∀ p,H' p=none->ti σ (upd H' p (.lst vs)) fun y H2=>r (.ref p) y H2 fun v H3=>g v σ H3 fun σ2 H4=>rest D σ2 H4):tSeq (tAsg (tOp r (tLst ta) ti) g) rest D σ H:=h σ H _ fun vs H1 hl s1=>⟨by rw [hl];exact hn,fun p hp=>q vs H1 hl s1 p hp⟩
def morW(A:Wk):Wk:=⟨A.ins,A.boxes,A.gates,A.outs++[0]⟩
theorem mor_ok{A:Wk}(ok:A.Ok)(h:A.outs.length<=8):(morW A).Ok:=by
 refine ⟨ok.ins,ok.boxes,ok.gates,?_,ok.gate,ok.box,fun o ho=>?_⟩
 ·show (A.outs++[0]).length<=20
  rw [List.length_append]
  show A.outs.length+1<=20
  lia
 ·rcases List.mem_append.mp (show o∈A.outs++[0] from ho) with h | h
  ·exact ok.out o h
  ·rw [List.mem_singleton.mp h]
   have:=A.knots_is
   exact ⟨by decide,by show (0:Int)<2*(A.knots:Int);lia⟩
theorem mor_un{A:Wk}:¬Szs A (morW A)/\¬Szs (morW A) A:=by
 have:(morW A).outs.length=A.outs.length+1:=by show (A.outs++[0]).length=_;rw [List.length_append];rfl
 exact ⟨fun h=>by have:=h.2;lia,fun h=>by have:=h.2;lia⟩
theorem o_l(W:Wk):Cmp 3 (dWk W):=Cmp.tuple (n:=2) fun d hd=>by
 simp only [List.mem_cons,List.not_mem_nil,or_false] at hd
 rcases hd with rfl | rfl | rfl | rfl
 ·exact .int _
 ·exact l_e _
 ·exact l_e _
 ·exact (Cmp.list (n:=0) (Cmp.ints _)).mono (by decide)
theorem dWk_two(A B:Wk):Cmp 64 (.list [dWk A,dWk B]):=(Cmp.list (n:=3) fun d hd=>by
 simp only [List.mem_cons,List.not_mem_nil,or_false] at hd
 rcases hd with rfl | rfl
 ·exact o_l _
 ·exact o_l _).mono (by decide)
end L2
namespace L2
open PySem PySem.Spec PyProof.Rows PySem.Calls
section
variable {prog:Program} {w:World} {A:Around} {E:Value->Shared->Prop} {s:Shared} {it l:Addr}
theorem rv_hint{Q:Bool->Shared->Prop}(ht:s.TypeIs (.ref it) "list_reverseiterator")(q:Q false s):wpAny (model prog w) A (Builtin.List.listLengthHint (.ref it)) Q E s:=by
 unfold Builtin.List.listLengthHint
 refine wpAny_bind (wpAny_specialOf (r:=none) ht (by rw [typeLookup_type,builtinLookup_eq_fast];kernel_rfl) ?_)
 dsimp only
 refine wpAny_ite_split (fun z=>absurd z (by decide +kernel)) fun _=>?_
 refine wpAny_ite_split (fun z=>absurd z (by decide)) fun _=>?_
 refine wpAny_bind (wpAny_specialOf (r:=some (.builtin "list_reverseiterator.__length_hint__")) ht (by rw [typeLookup_type,builtinLookup_eq_fast];kernel_rfl) ?_)
 generalize hid:("list_reverseiterator.__length_hint__" : String)=nm
 wp_delta
 rw [show splitId nm=some ("list_reverseiterator", "__length_hint__") from by subst hid;decide +kernel]
 subst hid
 refine wpAny_bind (wpAny_isInstance (T := "list_reverseiterator") (b:=true) ht (by rw [isSubtype_type];kernel_rfl) ?_)
 refine wpAny_ite_split (fun z=>absurd z (by decide)) fun _=>?_
 refine wpAny_ite_split (fun _=>?_) fun z=>absurd (by decide +kernel) z
 refine wpAny_ite_split (fun z=>absurd z (by decide)) fun _=>?_
 exact wpAny_pure q
theorem rv_call{items:Array Value}{Q:Value->Shared->Prop}(hh:A.handled=none)(hi:s.heap.IsRevIter it l ((items.size:Int)-1))(hl:s.heap.IsList l items)(hne:l≠it)(hn:items.size<=sizeLine)
  (q:∀ h' tk acc c,(∀ b o,b≠it->s.heap.get? b=some o->h'.get? b=some o)->h'.get? s.heap.objs.size=some { cls:=.type "list",dict:=none,data:=.seq acc c,slots:=#[] }->ItemsOf (fun i v=>items[items.size-1-i]? = some v) acc items.size->Q (.ref s.heap.objs.size) { s with heap:=h',toks:=tk }) :
  wpAny (model prog w) A (call (.type "list") [.ref it]) Q E s:=by
 obtain ⟨oi,hio,hic,hid⟩:=id hi
 obtain ⟨ol,hlo,hlc,ln,hld⟩:=id hl
 refine callType_codes (Q₁:=fun v s'=>v = .ref s.heap.objs.size/\s'={ s with heap:=s.heap.push { cls:=.type "list",data:=.seq #[] } }) PySem.F.called_list (PySem.F.typeCall_list_1 _) PySem.F.entry_list_init (code_list_new _ ⟨rfl,rfl⟩) fun v s' z=>?_
 obtain ⟨rfl,rfl⟩:=z
 generalize hS:s.heap.objs.size=S at q ⊢
 have h0:(s.heap.push { cls:=.type "list",data:=.seq #[] }).get? S=some { cls:=.type "list",data:=.seq #[] }:=by rw [<-hS];exact Heap.get?_push_size _ rfl
 have k0:∀ b o,s.heap.get? b=some o->(s.heap.push { cls:=.type "list",data:=.seq #[] }).get? b=some o:=fun b o e=>Heap.get?_push_of_some _ e
 have nI:S≠it:=by rw [<-hS];exact Nat.ne_of_gt (Heap.lt_size hio)
 have nl:S≠l:=by rw [<-hS];exact Nat.ne_of_gt (Heap.lt_size hlo)
 refine ⟨⟨_,h0,rfl⟩,PySem.F.args_list_init_2 _ _,?_⟩
 generalize s.heap.push { cls:=.type "list",data:=.seq #[] }=h1 at h0 k0 ⊢
 have kI:=k0 _ _ hio
 have kl:=k0 _ _ hlo
 show wpAny _ _ (do let old <-Builtin.List.listItems (.ref S);Builtin.List.listUpdate (.ref S) (fun _=>#[]);letGo old.toList.reverse;Builtin.List.listExtendWith (.ref S) (.ref it) .none) _ _ _
 refine wpAny_bind ?_
 unfold Builtin.List.listItems
 refine wpAny_bind (wpAny_seqItems h0 rfl (wpAny_pure ?_))
 show wpAny _ _ (updateSeq S (fun _=>#[]) >>= fun _=>letGo (#[]:Array Value).toList.reverse >>= fun _=>Builtin.List.listExtendWith (.ref S) (.ref it) .none) _ _ _
 refine wpAny_bind (wpAny_updateSeq h0 rfl ?_)
 have h2:=Heap.get?_update_self (Obj.mapSeq (fun _=>(#[]:Array Value))) h0 rfl
 have k2:∀ b o,b≠S->h1.get? b=some o->(h1.update S (Obj.mapSeq (fun _=>(#[]:Array Value)))).get? b=some o:=fun b o n e=>(Heap.get?_update_other _ _ (Ne.symm n)).trans e
 refine wpAny_bind (wpAny_letGo ?_)
 generalize h1.update S (Obj.mapSeq (fun _=>(#[]:Array Value)))=h3 at h2 k2 ⊢
 have eI:=k2 _ _ (Ne.symm nI) kI
 have el:=k2 _ _ (Ne.symm nl) kl
 have ri:h3.IsRevIter it l ((items.size:Int)-1):=⟨oi,eI,hic,hid⟩
 have rl:h3.IsList l items:=⟨ol,el,hlc,ln,hld⟩
 unfold Builtin.List.listExtendWith
 refine wpAny_bind (wpAny_typeOf (T := "list_reverseiterator") ⟨oi,eI,hic⟩ ?_)
 have ns:Builtin.List.listSameRef (.ref S) (.ref it)=false:=by simp [Builtin.List.listSameRef,nI]
 simp only [ns,show (Value.type "list_reverseiterator" == Value.type "list")=false by decide,show (Value.type "list_reverseiterator" == Value.type "tuple")=false by decide,Bool.or_false,Bool.false_eq_true,if_false]
 refine wpAny_bind (wpAny_pyIter_revIter ri ?_)
 refine wpAny_bind (wpAny_holding (rv_hint ⟨oi,eI,hic⟩ ?_))
 refine wpAny_ite_split (fun z=>absurd z (by decide +kernel)) fun _=>wpAny_pure ⟨plainId_quiet PySem.F.plain_extend_loop _,?_⟩
 have W:=Walks.listRev (prog:=prog) (w:=w) (A:=A.in1.in1) hh it l hne items
 refine codeAny_extend_loopS W.toS hn S (by simp only [List.mem_cons,List.not_mem_nil,or_false,not_or];exact ⟨nI,nl⟩) .none items.size 0 _ #[] _ rfl (Nat.zero_le _) ⟨Nat.zero_le _,by simpa using ri,rl⟩ h2 (ItemsOf.nil _) fun s' acc c hm hS' ha=>?_
 rw [Moved.eq_with hm]
 refine ⟨rfl,q s'.heap s'.toks acc c (fun b o nb e=>?_) hS' ha⟩
 have nS:b≠S:=by rw [<-hS];exact Nat.ne_of_lt (Heap.lt_size e)
 exact hm.heap b o (by simp only [List.mem_cons,List.not_mem_nil,or_false,not_or];exact ⟨nS,nb⟩) (k2 _ _ nS (k0 _ _ e))
end
section
variable {X:Cx} {e:Expr} {te:TE} {p1 p2 q1 q2:Pos}
def tListRev(te:TE):TE:=fun σ H Q=>te σ H fun x H1=>∃ l xs,x = .ref l/\H1 l=some (.lst xs)/\∀ p,H1 p=none->Q (.ref p) (upd H1 p (.lst xs.reverse))
theorem m_g(hc:X.calm=true)(gl:Gl X "list")(ml:X.mg "list" = none)(gr:Gl X "reversed")(mr:X.mg "reversed" = none)(he:PE X e te)
  (o1:starEach [.Call (.Name "reversed" p2) [e] [] q2] X.env=[(false,eval (.Call (.Name "reversed" p2) [e] [] q2) X.env)]:=by rfl) (o2:starEach [e] X.env=[(false,eval e X.env)]:=by rfl):PE X (.Call (.Name "list" p1) [.Call (.Name "reversed" p2) [e] [] q2] [] q1) (tListRev te):=by
 intro pins s σ H Q I h
 refine wpAny_Call_Name_kw (v_o I gl ml (u:=.type "list") (by decide +kernel) ?_ (by decide) (by decide))
 refine PyProof.Rows.callWith_type1 ?_ o1 rfl
 rw [o1]
 show wpAny _ _ (spliced ((false,eval (.Call (.Name "reversed" p2) [e] [] q2) X.env)::backTo q1 [])) _ _ s
 refine Calls.spliced_cons (wpAny_Call_Name_kw (v_o I gr mr (u:=.type "reversed") (by decide +kernel) ?_ (by decide) (by decide)))
 refine PyProof.Rows.callWith_type1 ?_ o2 rfl
 rw [o2]
 show wpAny _ _ (spliced ((false,eval e X.env)::backTo q2 [])) _ _ s
 refine Calls.spliced_cons (thn (he pins s σ H _ I h) fun u s1 z=>Calls.spliced_nil ?_)
 obtain ⟨x,H1,I1,rx,l,xs,rfl,hl,q⟩:=z
 obtain rfl:u=Value.ref l:=rx
 obtain ⟨hz,its,n,rv,ho⟩:=(show ObjOk X.prog X.w H1 s1.heap l (.lst xs) from I1.hok l _ hl)
 have hL:s1.heap.IsList l its.toArray:=⟨_,ho,rfl,n,rfl⟩
 have hsz:its.toArray.size=xs.length:=by rw [List.size_toArray];exact rv.length.symm
 refine call_reversed_list hL (Calls.spliced_nil ?_)
 have nl:l≠s1.heap.objs.size:=Nat.ne_of_lt (Heap.lt_size ho)
 refine rv_call (items:=its.toArray) (I.ok.hd hc) ⟨_,Heap.get?_push_size _ rfl,rfl,rfl⟩ (⟨_,Heap.get?_push_of_some _ ho,rfl,n,rfl⟩) nl (by rw [hsz];exact hz) fun h' tk acc c kp hS ha=>?_
 have ea:acc.toList=its.reverse:=by
  refine List.ext_getElem? fun j=>?_
  have hsa:acc.size=its.length:=by rw [ha.1,List.size_toArray]
  by_cases hj:j<its.length
  ·have hv:acc[j]? = some acc[j]:=Array.getElem?_eq_getElem (by lia)
   have:=ha.2 j _ hv
   rw [List.size_toArray,List.getElem?_toArray] at this
   rw [Array.getElem?_toList,hv,List.getElem?_reverse hj,this]
  ·rw [List.getElem?_eq_none (by rw [Array.length_toList];lia),List.getElem?_eq_none (by rw [List.length_reverse];lia)]
 have hb:((s1.heap.push (revObj l ((its.toArray.size:Int)-1))).objs.size)=s1.heap.objs.size+1:=by simp [Heap.push]
 rw [hb] at hS ⊢
 refine ⟨.ref (s1.heap.objs.size+1),_,I1.laid (a:=s1.heap.objs.size+1) (o:=.lst xs.reverse) (t':=tk) (fun b o z=>kp b o (Nat.ne_of_lt (Heap.lt_size z)) (Heap.get?_push_of_some _ z)) (Nat.le_succ _) ⟨by rw [List.length_reverse];exact hz,its.reverse,c,vals_rev rv,by rw [<-ea];simpa using hS⟩,rfl,q _ (I1.hok.fresh (Nat.le_succ _))⟩
end
end L2
namespace L2
open PySem PySem.Spec PyProof.Rows
end L2
namespace L2
open PySem PySem.Spec PyProof.Rows
section
variable {X:Cx}
theorem n_t{pins:List (Addr×Obj)}{σ:St}{H:Hp}{s:Shared}{A:Around}{E:Value->Shared->Prop}{Q:Value->Shared->Prop}{b:Bool}{x:V}{u t:Value}{tp:Addr}{dd:Option Addr}{its:List Value}{n:Nat}{sl:Array (Option Value)}
  (I:Inv X pins σ H s) (rx:RelV x u) (ty:TyOf X.K H x t) (htp:s.heap.get? tp=some ⟨.type "tuple",dd,.seq its.toArray n,sl⟩) (e:PySem.W.kitAny X.K t its=some b) (h:∀ tk,Q (.bool b) { s with toks:=tk }) :
  wpAny (model X.prog X.w) A (call (.builtin "isinstance") [u,.ref tp]) Q E s:=by
 cases ty with
 | non=>cases (show u=Value.none from rx);exact PySem.W.kia_tup PySem.W.kitx_none I.kIn True.intro htp e (fun z=>nomatch z) h
 | bl y=>cases (show u=Value.bool y from rx);exact PySem.W.kia_tup PySem.W.kitx_bool I.kIn True.intro htp e (fun z=>nomatch z) h
 | int i=>obtain ⟨t,q⟩:=(show ∃ t,u=Value.int i t from rx);cases q;exact PySem.W.kia_tup PySem.W.kitx_int I.kIn True.intro htp e (fun z=>nomatch z) h
 | str y=>obtain ⟨t,q⟩:=(show ∃ t,u=Value.str y t from rx);cases q;exact PySem.W.kia_tup PySem.W.kitx_str I.kIn True.intro htp e (fun z=>nomatch z) h
 | flt y=>obtain ⟨t,q⟩:=(show ∃ t,u=Value.float y t from rx);cases q;exact PySem.W.kia_tup PySem.W.kitx_float I.kIn True.intro htp e (fun z=>nomatch z) h
 | @lst a xs ea =>
  cases (show u=Value.ref a from rx)
  obtain ⟨_,_,n,_,h1⟩:=(show ObjOk X.prog X.w H s.heap a (.lst xs) from I.hok a _ ea)
  exact PySem.W.kia_tup kitx_list I.kIn ⟨_,h1,rfl⟩ htp e (fun z=>nomatch z) h
 | @frz a ob xs ea =>
  cases (show u=Value.ref a from rx)
  obtain ⟨_,_,_,n,_,h1⟩:=(show ObjOk X.prog X.w H s.heap a (.frz ob (.lst xs)) from I.hok a _ ea)
  exact PySem.W.kia_tup kitx_list I.kIn ⟨_,h1,rfl⟩ htp e (fun z=>nomatch z) h
 | @tup a xs ea =>
  cases (show u=Value.ref a from rx)
  obtain ⟨_,_,_,p⟩:=(show ObjOk X.prog X.w H s.heap a (.tup xs) from I.hok a _ ea)
  obtain ⟨o,h1,h2,_⟩:=p
  exact PySem.W.kia_tup PySem.W.kitx_tuple I.kIn ⟨o,h1,h2⟩ htp e (fun z=>nomatch z) h
 | @dK a kvs ea =>
  cases (show u=Value.ref a from rx)
  obtain ⟨_,_,vs,_,p⟩:=(show ObjOk X.prog X.w H s.heap a (.dK kvs) from I.hok a _ ea)
  obtain ⟨o,es,ep,h1,h2,_⟩:=p
  exact PySem.W.kia_tup kitx_dict I.kIn ⟨o,h1,h2.1⟩ htp e (fun z=>nomatch z) h
 | @dT a kvs ea =>
  cases (show u=Value.ref a from rx)
  obtain ⟨_,_,xs,_,o,es,ep,h1,h2,_⟩:=(show ObjOk X.prog X.w H s.heap a (.dT kvs) from I.hok a _ ea)
  exact PySem.W.kia_tup kitx_dict I.kIn ⟨o,h1,h2.1⟩ htp e (fun z=>nomatch z) h
 | @ins a C dx fs ea cl ha hn htk hm =>
  cases (show u=Value.ref a from rx)
  obtain ⟨mA,O,_⟩:=t_n I.hok ea
  obtain ⟨od,J,_⟩:=O.look
  exact PySem.W.kia_tup (PySem.W.kitx_own (cl.get _) cl.hd ha hn htk hm) I.kIn J htp e (fun z=>nomatch z) h
theorem n_k{K:PySem.W.Frag}(hK:X.K=K){S T:String}:CallR X (.builtin "isinstance") (fun xs H Q=>∃ x p t b,xs=[x,.ref p]/\H p=some (.tup [.ty S,.ty T])/\TyOf K H x t/\PySem.W.kitAny K t [.type S,.type T]=some b/\Q (.bl b) H):=by
 subst hK
 intro pins s σ H xs us Q I r h
 obtain ⟨x,p,t,b,rfl,hp,ty,e,q⟩:=h
 obtain ⟨u,w',rfl,rx,rt⟩:=vals2 r
 cases (show w'=Value.ref p from rt)
 obtain ⟨_,its,rv,ob,e1,e2,n,e3⟩:=(show ObjOk X.prog X.w H s.heap p (.tup [.ty S,.ty T]) from I.hok p _ hp)
 obtain ⟨a,b',rfl,ra,rb⟩:=vals2 rv
 cases (show a=Value.type S from ra)
 cases (show b'=Value.type T from rb)
 obtain ⟨cl,dd,da,sl⟩:=ob
 dsimp only at e2 e3
 subst e2 e3
 exact n_t I rx ty e1 e fun tk=>⟨.bl b,H,I.tok _,rfl,q⟩
end
end L2
set_option maxHeartbeats 4000000
namespace K42
open PySem L2
def top(i:Nat):Stmt:=PySem.Challenge.pw_lampforge_k42_two_works_or_no_pair.main.body.getD i (.Pass ⟨0,0,0,0⟩)
abbrev y_w:Stmt:=inClass (top 1) 0
abbrev y_s:Stmt:=inClass (top 1) 1
abbrev y_r:Stmt:=inClass (top 1) 2
abbrev y_x:Stmt:=inClass (top 1) 3
abbrev y_y:Stmt:=inClass (top 13) 0
abbrev v_e:Stmt:=top 18
abbrev w_b:Stmt:=top 19
abbrev w_p:Stmt:=top 20
abbrev w_a:Stmt:=top 21
abbrev v_d:Stmt:=top 22
abbrev w_q:Stmt:=top 23
abbrev w_m:Stmt:=top 25
abbrev x_i:Stmt:=top 26
abbrev w_g:Stmt:=top 28
abbrev w_n:Stmt:=top 30
abbrev u_i:Stmt:=top 31
abbrev v_c:Stmt:=top 32
abbrev u_h:Stmt:=top 33
abbrev x_x:Stmt:=top 34
abbrev x_l:Stmt:=top 35
abbrev u_j:Stmt:=top 39
abbrev u_k:Stmt:=top 40
abbrev z_u:Stmt:=top 41
abbrev w_v:Stmt:=top 42
abbrev z_v:Stmt:=top 43
abbrev w_w:Stmt:=top 44
abbrev v_l:Stmt:=top 45
abbrev r_k:Stmt:=top 46
abbrev x_k:Stmt:=top 48
abbrev x_e:Stmt:=top 49
abbrev x_j:Stmt:=top 50
abbrev x_y:Stmt:=top 51
abbrev x_h:Stmt:=top 52
abbrev x_m:Stmt:=top 53
abbrev x_z:Stmt:=top 54
abbrev w_o:Stmt:=top 55
abbrev s_e:Stmt:=top 57
abbrev u_d:Stmt:=top 58
abbrev u_e:Stmt:=top 59
abbrev v_b:Stmt:=top 60
abbrev u_c:Stmt:=top 61
abbrev k_k:Stmt:=top 62
abbrev u_f:Stmt:=inClass (top 5) 0
abbrev u_r:Stmt:=inClass (top 6) 0
abbrev u_q:Stmt:=inClass (top 7) 0
abbrev v_q:Stmt:=inClass (top 8) 0
abbrev u_g:Stmt:=inClass (top 9) 0
abbrev s_f:Stmt:=inClass (top 11) 0
theorem s_g:FnScope ["self", "knots"] ["self", "knots"] (z_k y_w):=⟨rfl,rfl,rfl,by decide +kernel,rfl,by decide +kernel,by decide +kernel⟩
theorem sc_Classes_least:FnScope ["self", "end", "lesser", "way", "passed"] ["self", "end"] (z_k y_s):=⟨rfl,rfl,rfl,by decide +kernel,rfl,by decide +kernel,by decide +kernel⟩
theorem u_w:FnScope ["self", "one", "other"] ["self", "one", "other"] (z_k y_r):=⟨rfl,rfl,rfl,by decide +kernel,rfl,by decide +kernel,by decide +kernel⟩
theorem sc_Classes_join:FnScope ["self", "one", "other", "low", "high"] ["self", "one", "other"] (z_k y_x):=⟨rfl,rfl,rfl,by decide +kernel,rfl,by decide +kernel,by decide +kernel⟩
theorem s_h:FnScope ["self", "where", "at"] ["self", "where", "at"] (z_k y_y):=⟨rfl,rfl,rfl,by decide +kernel,rfl,by decide +kernel,by decide +kernel⟩
theorem m_k:FnScope ["work"] ["work"] (z_k v_e):=⟨rfl,rfl,rfl,by decide +kernel,rfl,by decide +kernel,by decide +kernel⟩
theorem q_x:FnScope ["work"] ["work"] (z_k w_b):=⟨rfl,rfl,rfl,by decide +kernel,rfl,by decide +kernel,by decide +kernel⟩
theorem sc_next_net:FnScope ["work", "gates"] ["work"] (z_k w_p):=⟨rfl,rfl,rfl,by decide +kernel,rfl,by decide +kernel,by decide +kernel⟩
theorem sc_start_end:FnScope ["work", "end", "box"] ["work", "end"] (z_k w_a):=⟨rfl,rfl,rfl,by decide +kernel,rfl,by decide +kernel,by decide +kernel⟩
theorem m_j:FnScope ["work", "end"] ["work", "end"] (z_k v_d):=⟨rfl,rfl,rfl,by decide +kernel,rfl,by decide +kernel,by decide +kernel⟩
theorem sc_then_end:FnScope ["work", "end", "box"] ["work", "end"] (z_k w_q):=⟨rfl,rfl,rfl,by decide +kernel,rfl,by decide +kernel,by decide +kernel⟩
theorem o_c:FnScope ["thing"] ["thing"] (z_k w_m):=⟨rfl,rfl,rfl,by decide +kernel,rfl,by decide +kernel,by decide +kernel⟩
theorem r_m:FnScope ["thing", "low", "high"] ["thing", "low", "high"] (z_k x_i):=⟨rfl,rfl,rfl,by decide +kernel,rfl,by decide +kernel,by decide +kernel⟩
theorem o_d:FnScope ["work"] ["work"] (z_k w_n):=⟨rfl,rfl,rfl,by decide +kernel,rfl,by decide +kernel,by decide +kernel⟩
theorem k_n:FnScope ["thing", "knots"] ["thing", "knots"] (z_k u_i):=⟨rfl,rfl,rfl,by decide +kernel,rfl,by decide +kernel,by decide +kernel⟩
theorem m_i:FnScope ["thing", "knots"] ["thing", "knots"] (z_k v_c):=⟨rfl,rfl,rfl,by decide +kernel,rfl,by decide +kernel,by decide +kernel⟩
theorem sc_beside:FnScope ["one", "other", "boxes", "gates", "outs"] ["one", "other"] (z_k u_h):=⟨rfl,rfl,rfl,by decide +kernel,rfl,by decide +kernel,by decide +kernel⟩
theorem q_v:FnScope ["one", "other", "end"] ["one", "other", "end"] (z_k x_x):=⟨rfl,rfl,rfl,by decide +kernel,rfl,by decide +kernel,by decide +kernel⟩
theorem r_n:FnScope ["one", "other", "end"] ["one", "other", "end"] (z_k x_l):=⟨rfl,rfl,rfl,by decide +kernel,rfl,by decide +kernel,by decide +kernel⟩
theorem sc_look_paper:FnScope ["work", "goals", "paper", "kept", "number", "thing"] ["work", "goals", "paper"] (z_k x_k):=⟨rfl,rfl,rfl,by decide +kernel,rfl,by decide +kernel,by decide +kernel⟩
theorem sc_look_starts:FnScope ["work", "kept", "steps", "classes", "one", "other"] ["work", "kept", "steps"] (z_k x_e):=⟨rfl,rfl,rfl,by decide +kernel,rfl,by decide +kernel,by decide +kernel⟩
theorem sc_look_nexts:FnScope ["work", "kept", "steps", "classes", "number", "pair", "one", "other"] ["work", "kept", "steps"] (z_k x_j):=⟨rfl,rfl,rfl,by decide +kernel,rfl,by decide +kernel,by decide +kernel⟩
theorem sc_look_nows:FnScope ["work", "kept", "goals", "steps", "classes", "one", "other"] ["work", "kept", "goals", "steps"] (z_k x_y):=⟨rfl,rfl,rfl,by decide +kernel,rfl,by decide +kernel,by decide +kernel⟩
theorem r_l:FnScope ["net"] ["net"] (z_k x_h):=⟨rfl,rfl,rfl,by decide +kernel,rfl,by decide +kernel,by decide +kernel⟩
theorem sc_take_steps:FnScope ["net", "classes", "steps", "where", "number", "step"] ["net", "classes", "steps", "where"] (z_k x_m):=⟨rfl,rfl,rfl,by decide +kernel,rfl,by decide +kernel,by decide +kernel⟩
theorem q_w:FnScope ["one", "other"] ["one", "other"] (z_k x_z):=⟨rfl,rfl,rfl,by decide +kernel,rfl,by decide +kernel,by decide +kernel⟩
theorem sc_look_two:FnScope ["one", "other", "paper", "goals"] ["one", "other", "paper"] (z_k w_o):=⟨rfl,rfl,rfl,by decide +kernel,rfl,by decide +kernel,by decide +kernel⟩
theorem sc_L_row:FnScope ["_law_script", "_law_at", "_law_many", "_law_cell", "_law_rest", "_law_great", "_law_row_here", "_law_k", "_law_one"] ["_law_script", "_law_at", "_law_many"] (z_k s_e):=⟨rfl,rfl,rfl,by decide +kernel,rfl,by decide +kernel,by decide +kernel⟩
theorem k_m:FnScope ["_law_number", "_law_many"] ["_law_number", "_law_many"] (z_k u_d):=⟨rfl,rfl,rfl,by decide +kernel,rfl,by decide +kernel,by decide +kernel⟩
theorem sc_L_work:FnScope ["_law_row_here", "_law_sizes", "_law_ins", "_law_many", "_law_knots", "_law_some", "_law_k", "_law_kept"] ["_law_row_here", "_law_sizes"] (z_k u_e):=⟨rfl,rfl,rfl,by decide +kernel,rfl,by decide +kernel,by decide +kernel⟩
theorem sc_L_asked:FnScope ["_law_one", "_law_other", "_law_paper", "_law_said", "e"] ["_law_one", "_law_other", "_law_paper"] (z_k v_b):=⟨rfl,rfl,rfl,by decide +kernel,rfl,by decide +kernel,by decide +kernel⟩
theorem k_l:FnScope ["_law_work_here"] ["_law_work_here"] (z_k u_c):=⟨rfl,rfl,rfl,by decide +kernel,rfl,by decide +kernel,by decide +kernel⟩
theorem sc_law:FnScope ["_law_script", "_law_k", "_law_sizes", "_law_one", "_law_other", "_law_kept", "_law_odd", "_law_unlike", "_law_more", "_law_boxes", "_law_pairs", "_law_bare", "_law_turned"] ["_law_script"] (z_k k_k):=⟨rfl,rfl,rfl,by decide +kernel,rfl,by decide +kernel,by decide +kernel⟩
abbrev y_h:Pos:=⟨184,4,185,52⟩
abbrev y_j:Str := "bits_of_both.<locals>.turned"
abbrev y_i:Pos:=⟨196,52,196,72⟩
abbrev y_k:Str := "sets_of_both.<locals>.<lambda>"
set_option genInjectivity false in
set_option genSizeOfSpec false in
structure Ad where
 a_Classes_init:Addr
 d_Classes_init:FuncData
 a_Classes_least:Addr
 d_Classes_least:FuncData
 a_Classes_alike:Addr
 d_Classes_alike:FuncData
 a_Classes_join:Addr
 d_Classes_join:FuncData
 a_NoPaper_init:Addr
 d_NoPaper_init:FuncData
 a_now_net:Addr
 d_now_net:FuncData
 a_start_net:Addr
 d_start_net:FuncData
 a_next_net:Addr
 d_next_net:FuncData
 a_start_end:Addr
 d_start_end:FuncData
 a_now_end:Addr
 d_now_end:FuncData
 a_then_end:Addr
 d_then_end:FuncData
 a_is_whole:Addr
 d_is_whole:FuncData
 a_is_between:Addr
 d_is_between:FuncData
 a_all_stands:Addr
 d_all_stands:FuncData
 a_knots_in:Addr
 d_knots_in:FuncData
 a_is_end:Addr
 d_is_end:FuncData
 a_is_pair:Addr
 d_is_pair:FuncData
 a_beside:Addr
 d_beside:FuncData
 a_first_end:Addr
 d_first_end:FuncData
 a_second_end:Addr
 d_second_end:FuncData
 a_is_good:Addr
 d_is_good:FuncData
 a_is_step:Addr
 d_is_step:FuncData
 a_bits_of_both:Addr
 d_bits_of_both:FuncData
 a_both_bits:Addr
 d_both_bits:FuncData
 a_sets_of_both:Addr
 d_sets_of_both:FuncData
 a_both_sets:Addr
 d_both_sets:FuncData
 a_found_of:Addr
 d_found_of:FuncData
 a_below:Addr
 d_below:FuncData
 a_look_paper:Addr
 d_look_paper:FuncData
 a_look_starts:Addr
 d_look_starts:FuncData
 a_look_nexts:Addr
 d_look_nexts:FuncData
 a_look_nows:Addr
 d_look_nows:FuncData
 a_classes_of:Addr
 d_classes_of:FuncData
 a_take_steps:Addr
 d_take_steps:FuncData
 a_look_pair:Addr
 d_look_pair:FuncData
 a_look_two:Addr
 d_look_two:FuncData
 a_L_row:Addr
 d_L_row:FuncData
 a_L_size:Addr
 d_L_size:FuncData
 a_L_work:Addr
 d_L_work:FuncData
 a_L_asked:Addr
 d_L_asked:FuncData
 a_L_copy:Addr
 d_L_copy:FuncData
 a_law:Addr
 d_law:FuncData
 a_MOST_LEAVES:Addr
 c_Classes:Addr
 c_ForgeError:Addr
 c_NoPlan:Addr
 c_NoName:Addr
 c_Twice:Addr
 c_Never:Addr
 c_NoWidth:Addr
 c_NoPart:Addr
 c_TooMuch:Addr
 c_Ring:Addr
 c_NoPair:Addr
 c_NoPaper:Addr
 c_NoWord:Addr
 c_NoText:Addr
 c_NoRow:Addr
 tc_bits_of_both:Addr
 tp_bits_of_both:Addr
 tc_sets_of_both:Addr
 tp_sets_of_both:Addr
def k_s(K:PySem.W.Frag)(P:Addr)(lp:Pos)(lq:Str)(P2:Addr)(lp2:Pos)(lq2:Str):Sp:=fun vs H Q _=>∃ (a:Addr) (ns:List Int),vs=[.ref a]/\SqL K H a (ns.map V.int)/\ns.length<=63/\H P=some (.tbl lp lq)/\H P2=some (.tbl lp2 lq2)/\∀ H',Q (.bl true) H'
def p_e:Sp:=fun vs H Q _=>∃ (w b g o:Addr) (W:Wk),vs=[.ref w]/\IsWkA H w b g o W/\∀ w' b' g' o' H',Same H H'->IsWkA H' w' b' g' o' W->Q (.ref w') H'
def s_r:Sp:=fun vs H Q _=>∃ (w b g o w' b' g' o':Addr) (A B:Wk) (pq:V),vs=[.ref w,.ref w',pq]/\IsWkA H w b g o A/\IsWkA H w' b' g' o' B/\A.Ok/\B.Ok/\(¬Szs A B->∀ H',Same H H'->Q (.str "pair") H') /\
 (Szs A B->∃ p goals kept R,pq = .ref p/\TwoX H A B p goals kept R/\(GAl R goals->∀ H',Same H H'->Q (.str "by") H')/\(¬GAl R goals->∀ H',Same H H'->Q (.str "paper") H'))
def p_h:Sp:=fun vs H Q _=>∃ i:Int,vs=[.int i]/\Q (.bl true) H
def k_q:Sp:=fun vs H Q _=>∃ i lo hi:Int,vs=[.int i,.int lo,.int hi]/\Q (.bl (decide (lo<=i)&&decide (i<=hi))) H
def k_r:Sp:=fun vs H Q _=>∃ i k:Int,vs=[.int i,.int k]/\Q (.bl (decide (0<=i)&&decide (i<=2*k-1))) H
def nv_any:Sp:=fun _ _ _ _=>False
theorem s_y{P:Program}{w:World}{K:PySem.W.Frag}{mg:Str->Option Value}{base:Heap}{k:Nat}{f:Addr}{fd:FuncData}{ps:List Str}:FnOk P w K mg base CX0 k f fd ps nv_any:=⟨fun vs H Q E q=>(show False from q).elim,fun _ _ _ _ _ _ _ _ _ _ _ _ _ q=>(show False from q).elim⟩
structure Tx(w:World)(K:PySem.W.Frag)(mg:Str->Option Value)(A:Ad):Prop where
 ValueError:mg "ValueError" = none
 abs:mg "abs" = none
 all:mg "all" = none
 bool:mg "bool" = none
 enumerate:mg "enumerate" = none
 int:mg "int" = none
 isinstance:mg "isinstance" = none
 len:mg "len" = none
 list:mg "list" = none
 max:mg "max" = none
 min:mg "min" = none
 range:mg "range" = none
 reversed:mg "reversed" = none
 tuple:mg "tuple" = none
 zip:mg "zip" = none
 g_MOST_LEAVES:mg "MOST_LEAVES" = some (.ref A.a_MOST_LEAVES)
 D_MOST_LEAVES:∃ kvs,TopD w K A.a_MOST_LEAVES kvs/\kvs.lookup ("stands" : Str)=some (V.int 6)
 g_LOW:∃ t,mg "LOW" = some (.str "low" t)
 F_Classes_init:Fun K "__init__" "Classes.__init__" y_w A.a_Classes_init A.d_Classes_init
 B_Classes_init:Binds K A.d_Classes_init ["self", "knots"] []
 mk_Classes:Mk K A.c_Classes A.a_Classes_init
 F_Classes_least:Fun K "least" "Classes.least" y_s A.a_Classes_least A.d_Classes_least
 B_Classes_least:Binds K A.d_Classes_least ["self", "end"] []
 me_Classes_least:Meth K A.c_Classes "least" A.a_Classes_least
 F_Classes_alike:Fun K "alike" "Classes.alike" y_r A.a_Classes_alike A.d_Classes_alike
 B_Classes_alike:Binds K A.d_Classes_alike ["self", "one", "other"] []
 me_Classes_alike:Meth K A.c_Classes "alike" A.a_Classes_alike
 F_Classes_join:Fun K "join" "Classes.join" y_x A.a_Classes_join A.d_Classes_join
 B_Classes_join:Binds K A.d_Classes_join ["self", "one", "other"] []
 me_Classes_join:Meth K A.c_Classes "join" A.a_Classes_join
 F_NoPaper_init:Fun K "__init__" "NoPaper.__init__" y_y A.a_NoPaper_init A.d_NoPaper_init
 B_NoPaper_init:Binds K A.d_NoPaper_init ["self", "where", "at"] []
 F_now_net:Fun K "now_net" "now_net" v_e A.a_now_net A.d_now_net
 B_now_net:Binds K A.d_now_net ["work"] []
 M_now_net:mg "now_net" = some (.ref A.a_now_net)
 F_start_net:Fun K "start_net" "start_net" w_b A.a_start_net A.d_start_net
 B_start_net:Binds K A.d_start_net ["work"] []
 M_start_net:mg "start_net" = some (.ref A.a_start_net)
 F_next_net:Fun K "next_net" "next_net" w_p A.a_next_net A.d_next_net
 B_next_net:Binds K A.d_next_net ["work"] []
 M_next_net:mg "next_net" = some (.ref A.a_next_net)
 F_start_end:Fun K "start_end" "start_end" w_a A.a_start_end A.d_start_end
 B_start_end:Binds K A.d_start_end ["work", "end"] []
 M_start_end:mg "start_end" = some (.ref A.a_start_end)
 F_now_end:Fun K "now_end" "now_end" v_d A.a_now_end A.d_now_end
 B_now_end:Binds K A.d_now_end ["work", "end"] []
 M_now_end:mg "now_end" = some (.ref A.a_now_end)
 F_then_end:Fun K "then_end" "then_end" w_q A.a_then_end A.d_then_end
 B_then_end:Binds K A.d_then_end ["work", "end"] []
 M_then_end:mg "then_end" = some (.ref A.a_then_end)
 F_is_whole:Fun K "is_whole" "is_whole" w_m A.a_is_whole A.d_is_whole
 B_is_whole:Binds K A.d_is_whole ["thing"] []
 M_is_whole:mg "is_whole" = some (.ref A.a_is_whole)
 F_is_between:Fun K "is_between" "is_between" x_i A.a_is_between A.d_is_between
 B_is_between:Binds K A.d_is_between ["thing", "low", "high"] []
 M_is_between:mg "is_between" = some (.ref A.a_is_between)
 F_all_stands:Fun K "all_stands" "all_stands" w_g A.a_all_stands A.d_all_stands
 B_all_stands:Binds K A.d_all_stands ["many"] []
 M_all_stands:mg "all_stands" = some (.ref A.a_all_stands)
 F_knots_in:Fun K "knots_in" "knots_in" w_n A.a_knots_in A.d_knots_in
 B_knots_in:Binds K A.d_knots_in ["work"] []
 M_knots_in:mg "knots_in" = some (.ref A.a_knots_in)
 F_is_end:Fun K "is_end" "is_end" u_i A.a_is_end A.d_is_end
 B_is_end:Binds K A.d_is_end ["thing", "knots"] []
 M_is_end:mg "is_end" = some (.ref A.a_is_end)
 F_is_pair:Fun K "is_pair" "is_pair" v_c A.a_is_pair A.d_is_pair
 B_is_pair:Binds K A.d_is_pair ["thing", "knots"] []
 M_is_pair:mg "is_pair" = some (.ref A.a_is_pair)
 F_beside:Fun K "beside" "beside" u_h A.a_beside A.d_beside
 B_beside:Binds K A.d_beside ["one", "other"] []
 M_beside:mg "beside" = some (.ref A.a_beside)
 F_first_end:Fun K "first_end" "first_end" x_x A.a_first_end A.d_first_end
 B_first_end:Binds K A.d_first_end ["one", "other", "end"] []
 M_first_end:mg "first_end" = some (.ref A.a_first_end)
 F_second_end:Fun K "second_end" "second_end" x_l A.a_second_end A.d_second_end
 B_second_end:Binds K A.d_second_end ["one", "other", "end"] []
 M_second_end:mg "second_end" = some (.ref A.a_second_end)
 F_is_good:Fun K "is_good" "is_good" u_j A.a_is_good A.d_is_good
 B_is_good:Binds K A.d_is_good ["net", "classes", "step"] []
 M_is_good:mg "is_good" = some (.ref A.a_is_good)
 F_is_step:Fun K "is_step" "is_step" u_k A.a_is_step A.d_is_step
 B_is_step:Binds K A.d_is_step ["net", "classes", "thing"] []
 M_is_step:mg "is_step" = some (.ref A.a_is_step)
 F_bits_of_both:Fun K "bits_of_both" "bits_of_both" z_u A.a_bits_of_both A.d_bits_of_both
 B_bits_of_both:Binds K A.d_bits_of_both ["net", "classes", "step"] []
 M_bits_of_both:mg "bits_of_both" = some (.ref A.a_bits_of_both)
 F_both_bits:Fun K "both_bits" "both_bits" w_v A.a_both_bits A.d_both_bits
 B_both_bits:Binds K A.d_both_bits ["one", "other"] []
 M_both_bits:mg "both_bits" = some (.ref A.a_both_bits)
 F_sets_of_both:Fun K "sets_of_both" "sets_of_both" z_v A.a_sets_of_both A.d_sets_of_both
 B_sets_of_both:Binds K A.d_sets_of_both ["net", "classes", "step"] []
 M_sets_of_both:mg "sets_of_both" = some (.ref A.a_sets_of_both)
 F_both_sets:Fun K "both_sets" "both_sets" w_w A.a_both_sets A.d_both_sets
 B_both_sets:Binds K A.d_both_sets ["one", "other"] []
 M_both_sets:mg "both_sets" = some (.ref A.a_both_sets)
 F_found_of:Fun K "found_of" "found_of" v_l A.a_found_of A.d_found_of
 B_found_of:Binds K A.d_found_of ["net", "classes", "given", "ends", "turned", "both"] []
 M_found_of:mg "found_of" = some (.ref A.a_found_of)
 F_below:Fun K "below" "below" r_k A.a_below A.d_below
 B_below:Binds K A.d_below ["net", "end"] []
 M_below:mg "below" = some (.ref A.a_below)
 F_look_paper:Fun K "look_paper" "look_paper" x_k A.a_look_paper A.d_look_paper
 B_look_paper:Binds K A.d_look_paper ["work", "goals", "paper"] []
 M_look_paper:mg "look_paper" = some (.ref A.a_look_paper)
 F_look_starts:Fun K "look_starts" "look_starts" x_e A.a_look_starts A.d_look_starts
 B_look_starts:Binds K A.d_look_starts ["work", "kept", "steps"] []
 M_look_starts:mg "look_starts" = some (.ref A.a_look_starts)
 F_look_nexts:Fun K "look_nexts" "look_nexts" x_j A.a_look_nexts A.d_look_nexts
 B_look_nexts:Binds K A.d_look_nexts ["work", "kept", "steps"] []
 M_look_nexts:mg "look_nexts" = some (.ref A.a_look_nexts)
 F_look_nows:Fun K "look_nows" "look_nows" x_y A.a_look_nows A.d_look_nows
 B_look_nows:Binds K A.d_look_nows ["work", "kept", "goals", "steps"] []
 M_look_nows:mg "look_nows" = some (.ref A.a_look_nows)
 F_classes_of:Fun K "classes_of" "classes_of" x_h A.a_classes_of A.d_classes_of
 B_classes_of:Binds K A.d_classes_of ["net"] []
 M_classes_of:mg "classes_of" = some (.ref A.a_classes_of)
 F_take_steps:Fun K "take_steps" "take_steps" x_m A.a_take_steps A.d_take_steps
 B_take_steps:Binds K A.d_take_steps ["net", "classes", "steps", "where"] []
 M_take_steps:mg "take_steps" = some (.ref A.a_take_steps)
 F_look_pair:Fun K "look_pair" "look_pair" x_z A.a_look_pair A.d_look_pair
 B_look_pair:Binds K A.d_look_pair ["one", "other"] []
 M_look_pair:mg "look_pair" = some (.ref A.a_look_pair)
 F_look_two:Fun K "look_two" "look_two" w_o A.a_look_two A.d_look_two
 B_look_two:Binds K A.d_look_two ["one", "other", "paper"] []
 M_look_two:mg "look_two" = some (.ref A.a_look_two)
 F_L_row:Fun K "_law_row" "_law_row" s_e A.a_L_row A.d_L_row
 B_L_row:Binds K A.d_L_row ["_law_script", "_law_at", "_law_many"] []
 M_L_row:mg "_law_row" = some (.ref A.a_L_row)
 F_L_size:Fun K "_law_size" "_law_size" u_d A.a_L_size A.d_L_size
 B_L_size:Binds K A.d_L_size ["_law_number", "_law_many"] []
 M_L_size:mg "_law_size" = some (.ref A.a_L_size)
 F_L_work:Fun K "_law_work" "_law_work" u_e A.a_L_work A.d_L_work
 B_L_work:Binds K A.d_L_work ["_law_row_here", "_law_sizes"] []
 M_L_work:mg "_law_work" = some (.ref A.a_L_work)
 F_L_asked:Fun K "_law_asked" "_law_asked" v_b A.a_L_asked A.d_L_asked
 B_L_asked:Binds K A.d_L_asked ["_law_one", "_law_other", "_law_paper"] []
 M_L_asked:mg "_law_asked" = some (.ref A.a_L_asked)
 F_L_copy:Fun K "_law_copy" "_law_copy" u_c A.a_L_copy A.d_L_copy
 B_L_copy:Binds K A.d_L_copy ["_law_work_here"] []
 M_L_copy:mg "_law_copy" = some (.ref A.a_L_copy)
 F_law:Fun K "law" "law" k_k A.a_law A.d_law
 B_law:Binds K A.d_law ["_law_script"] []
 M_law:mg "law" = some (.ref A.a_law)
 cl_Classes:Cls K A.c_Classes
 M_Classes:mg "Classes" = some (.ref A.c_Classes)
 n_Classes_lesser:NoAttr K A.c_Classes "lesser"
 L_bits_of_both:A.d_bits_of_both.code = .ref A.tc_bits_of_both
 L_sets_of_both:A.d_sets_of_both.code = .ref A.tc_sets_of_both
 M_ForgeError:mg "ForgeError" = some (.ref A.c_ForgeError)
 M_NoPlan:mg "NoPlan" = some (.ref A.c_NoPlan)
 M_NoName:mg "NoName" = some (.ref A.c_NoName)
 M_Twice:mg "Twice" = some (.ref A.c_Twice)
 M_Never:mg "Never" = some (.ref A.c_Never)
 M_NoWidth:mg "NoWidth" = some (.ref A.c_NoWidth)
 M_NoPart:mg "NoPart" = some (.ref A.c_NoPart)
 M_TooMuch:mg "TooMuch" = some (.ref A.c_TooMuch)
 M_Ring:mg "Ring" = some (.ref A.c_Ring)
 M_NoPair:mg "NoPair" = some (.ref A.c_NoPair)
 M_NoPaper:mg "NoPaper" = some (.ref A.c_NoPaper)
 M_NoWord:mg "NoWord" = some (.ref A.c_NoWord)
 M_NoText:mg "NoText" = some (.ref A.c_NoText)
 M_NoRow:mg "NoRow" = some (.ref A.c_NoRow)
 x_ForgeError:excK K A.c_ForgeError bmV=true
 x_NoPair:excK K A.c_NoPair (.ref A.c_ForgeError::bmV)=true
 q_NoPair:excQ K A.c_NoPair=true
 o_NoPaper:excI K A.c_NoPaper A.c_ForgeError A.a_NoPaper_init=true
 ty_NoPaper:typeIn K (.ref A.a_NoPaper_init)=some (.type "function")
 sa_NoPaper:PySem.W.findIn K (.ref A.c_NoPaper) "__setattr__" = some (some (.builtin "object.__setattr__"))
 nf_where:PySem.W.findIn K (.ref A.c_NoPaper) "where" = some none
 nf_at:PySem.W.findIn K (.ref A.c_NoPaper) "at" = some none
 gm_ForgeError:specialIn K (.ref A.c_ForgeError) "__getattribute__" = some (some (.builtin "type.__getattribute__"))/\readsIn K A.c_ForgeError (.type "type")=true/\findCls K (.ref A.c_ForgeError) (.type "type") "__init__" = some (.val (.builtin "ValueError.__init__"))
 ne_PP:A.c_NoPaper≠A.c_NoPair
 ne_PF:A.c_ForgeError≠A.c_NoPair
 i_val:PySem.W.kitOne K (.ref A.c_NoPair) (.type "ValueError")=some true
 i_no1:PySem.W.kitAny K (.ref A.c_NoPair) [.ref A.c_Never,.ref A.c_NoName,.ref A.c_NoPaper,.ref A.c_NoPart,.ref A.c_NoPlan,.ref A.c_NoRow,.ref A.c_NoText,.ref A.c_NoWidth,.ref A.c_NoWord]=some false
 i_no2:PySem.W.kitAny K (.ref A.c_NoPair) [.ref A.c_Ring,.ref A.c_TooMuch,.ref A.c_Twice]=some false
section
variable {P:Program} {w:World} {K:PySem.W.Frag} {mg:Str->Option Value} {base:Heap} {A:Ad}
seal L2.PE L2.PA L2.PT L2.PS L2.PSs
theorem t_x(T:Tx w K mg A):FnOk P w K mg base CX0 1 A.a_Classes_init A.d_Classes_init ["self", "knots"] (p_a A.c_Classes):=by
 refine T.F_Classes_init.ok s_g (fun vs H Q E h=>?_) (fun cdv A' outer s H vs Q E hr h=>?_)
 ·obtain ⟨o,dx,n,rfl,ho,hn,q⟩:=h
  rfl
 obtain ⟨o,dx,n,rfl,ho,hn,q⟩:=h
 refine ⟨_,(z_g (ps_fld (pv 0) (s_b [] (fun _ _ h=>h) rfl (w_l rfl T.range (z_a (pv 1) z_b)) (fun _ _ _ _=>y_q) (fun _ _ _ _=>(z_l y_g z_c (pv 0))) rfl (show ∀ j∈([]:List Nat),j<2 by decide) (show (["knot"]:List Str).Nodup by decide +kernel)) rfl)),?_⟩
 refine ⟨_,rfl,_,rfl,by lia,by lia,v_j (lo:=0) (fun i ys H'=>H=H'/\ys=w_z ((List.range i).map fun k=>2*k)) ⟨rfl,rfl⟩ ?_ ?_ ?_⟩
 ·rintro i ys H' hi ⟨rfl,rfl⟩
  rw [t_u,List.length_map,List.length_range]
  exact w_r (by lia)
 ·rintro i ys H' hi ⟨rfl,rfl⟩
  unfold tYes
  refine iteT ⟨_,rfl,_,_,rfl,rfl,.inl ⟨by decide,by decide⟩,?_⟩
  refine ⟨rfl,?_⟩
  rw [List.range_succ,List.map_append]
  unfold w_z
  rw [List.map_append]
  congr 1
  show [V.int (2*(0+(i:Int)))]=[V.int ((2*i:Nat):Int)]
  rw [Int.zero_add,Int.natCast_mul]
  rfl
 ·rintro ys H' ⟨rfl,rfl⟩ pl hpl
  have nol:o≠pl:=z_h ho hpl
  refine ⟨_,rfl,o,A.c_Classes,dx,[],rfl,(by rw [z_m nol];exact ho),T.cl_Classes,T.n_Classes_lesser,by decide,?_⟩
  refine q pl _ hpl (fun b o' nb e=>?_) ⟨⟨dx,z_d⟩,_,(by rw [z_m (Ne.symm nol),z_d]),?_,hn⟩
  ·rw [z_m nb,z_m (z_h e hpl)]
   exact e
  ·have:((n:Int)-0).toNat=n:=by lia
   simp only [Int.toNat_natCast,Int.sub_zero]
   exact Uf.init n
theorem u_u(T:Tx w K mg A):FnOk P w K mg base CX0 1 A.a_Classes_least A.d_Classes_least ["self", "end"] (u_p A.c_Classes):=by
 refine T.F_Classes_least.ok sc_Classes_least (fun vs H Q E h=>?_) (fun cdv A' outer s H vs Q E hr h=>?_)
 ·obtain ⟨o,l,n,R,e,rfl,⟨⟨dx,ho⟩,L,hl,u,hn⟩,he,q⟩:=h
  rfl
 obtain ⟨o,l,n,R,e,rfl,⟨⟨dx,ho⟩,L,hl,u,hn⟩,he,q⟩:=h
 refine ⟨_,(z_e (z_z (i:=2) sc_Classes_least.nd rfl (Or.inl rfl) (pe_fld (pv 0) rfl))
  (z_e (z_z (i:=3) sc_Classes_least.nd rfl (Or.inl rfl) (z_y z_b))
  (z_e (ps_while PassesOwn.never (y_d u_v (z_l y_m (z_o v_y (pv 2) (z_l y_m (pv 1) z_c) (fun _ _=>rfl)) z_c) (z_l y_m (pv 1) z_c) (nomark _))
    (z_e (y_o (q_q PySem.F.plainAttrs_list PySem.F.slot_list_append PySem.F.type_list_append v_z (pv 3) (z_a (pv 1) z_b)))
  (z_g (z_z (i:=1) sc_Classes_least.nd rfl (Or.inl rfl) (z_l s_q (z_o v_y (pv 2) (z_l y_m (pv 1) z_c) (fun _ _=>rfl)) (z_l x_c (pv 1) z_c))))))
  (z_e (v_a PassesOwn.never rfl (y_p (pv 3)) (z_q (i:=4) sc_Classes_least.nd rfl (Or.inl rfl))
    (z_g (ps_asg (z_l s_q (pv 1) (z_l x_c (pv 4) z_c)) (pg_sub (pv 2) (z_l y_m (pv 4) z_c) n_d))))
  (z_g (z_r (pv 1))))))),?_⟩
 have nol:o≠l:=ClsAt.ne (C:=A.c_Classes) ⟨⟨dx,ho⟩,L,hl,u,hn⟩
 refine ⟨_,rfl,o,A.c_Classes,dx,_,_,rfl,ho,T.cl_Classes,T.n_Classes_lesser,q_g,?_⟩
 refine ⟨zl0,fun pw hpw=>?_⟩
 have nlw:l≠pw:=z_h hl hpw
 have now:o≠pw:=z_h ho hpw
 let WI:Nat->St->Hp->Prop:=fun m σ H1=>∃ (c:Nat) (ws:List Nat),σ=[some (.ref o),some (.int (c:Int)),some (.ref l),some (.ref pw),none]/\m=c/\Same H H1/\H1 pw=some (.lst (w_z ws))/\c/2<n/\R c=R e/\ws.length+c/2<=e/2/\∀ w∈ws,w/2<n/\R w=R e/\R w/2<w/2
 refine ⟨WI,⟨e,e,[],rfl,rfl,z_f hpw _,z_d,he,rfl,by simp,fun _ h=>nomatch h⟩,?_⟩
 rintro m σ H1 ⟨c,ws,rfl,rfl,s1,hw1,hc,hR,hlen,hall⟩
 have hl1:=s1 _ _ hl
 have hat:=at_nats (L:=L) (c:=m) (by rw [u.len];exact hc)
 refine ⟨_,rfl,_,rfl,_,_,rfl,rfl,⟨by decide,by decide⟩,l,_,_,_,rfl,rfl,SqL.of hl1,hat,_,_,rfl,rfl,⟨by decide,by decide⟩,_,rfl,_,_,rfl,rfl,⟨by decide,by decide⟩,rfl,_,rfl,?_⟩
 by_cases hroot:L.getD (m/2) 0/2=m/2
 ·refine x_f (by rw [decide_eq_true (congrArg V.int (show ((L.getD (m/2) 0:Nat):Int)/2=(m:Int)/2 by lia))];rfl) ?_
  have hRm:=u.here hc hroot
  rw [hR] at hRm
  refine ⟨_,rfl,pw,rfl,⟨_,SqL.of hw1⟩,o_p (xs:=w_z ws) (fun i σ H'=>∃ (z:Option V) (L':List Nat),σ=[some (.ref o),some (.int (m:Int)),some (.ref l),some (.ref pw),z]/\Ch l H1 H'/\H' l=some (.lst (w_z L'))/\Uf n L' R) ⟨_,L,rfl,Ch.refl,hl1,u⟩ ?_ ?_ ?_⟩
  ·rintro i σ H' _ ⟨z,L',rfl,ch,_,_⟩
   exact SqL.of (ch _ _ (Ne.symm nlw) hw1)
  ·rintro i v σ H' hv ⟨z,L',rfl,ch,hl',u'⟩
   have hv':∃ w∈ws,v = .int ((w:Nat):Int):=by
    have:=List.mem_of_getElem? hv
    unfold w_z at this
    obtain ⟨w,hw,e⟩:=List.mem_map.mp this
    exact ⟨w,hw,e.symm⟩
   obtain ⟨w,hw,rfl⟩:=hv'
   obtain ⟨a1,a2,a3⟩:=hall w hw
   have hx:Builtin.bitXor (m:Int) ((w:Int)%2)=((m^^^(w%2):Nat):Int):=by
    rw [show (w:Int)%2=((w%2:Nat):Int) by lia]
    exact r_r m (w%2)
   refine ⟨_,rfl,_,rfl,_,_,rfl,rfl,(by show (0:Int)<2;decide),_,_,rfl,rfl,_,rfl,_,rfl,_,_,rfl,rfl,⟨by decide,by decide⟩,l,_,_,w/2,rfl,rfl,hl',?_,?_⟩
   ·exact o_t (by rw [u'.len];exact a1)
   ·dsimp only
    rw [hx,q_h]
    refine ⟨_,_,rfl,ch.trans (Ch.put _),z_d,?_⟩
    have:=u'.press a1 a3
    rw [a2,hRm] at this
    exact this
  ·rintro σ H' ⟨z,L',rfl,ch,hl',u'⟩
   refine ⟨_,rfl,?_⟩
   rw [<-hRm]
   exact q H' ((s1.ch).trans ch) ⟨⟨dx,ch _ _ nol (s1 _ _ ho)⟩,L',hl',u',hn⟩
 ·refine v_x (by rw [decide_eq_false (by intro h;injection h with h;lia)];rfl) ?_
  obtain ⟨b1,b2,b3⟩:=u.lt hc hroot
  have hx:Builtin.bitXor ((L.getD (m/2) 0:Nat):Int) ((m:Int)%2)=((L.getD (m/2) 0^^^(m%2):Nat):Int):=by
   rw [show (m:Int)%2=((m%2:Nat):Int) by lia]
   exact r_r _ _
  have hd:=k_x (L.getD (m/2) 0) (m%2) (by lia)
  refine ⟨fun σ' H'=>∃ m',m'<m/\WI m' σ' H',fun _ _ h=>h,?_⟩
  refine ⟨_,rfl,.inl ⟨rfl,_,SqL.of hw1⟩,_,rfl,pw,_,_,rfl,rfl,hw1,w_r (by rw [t_u];lia),?_⟩
  refine ⟨_,rfl,_,rfl,_,_,rfl,rfl,⟨by decide,by decide⟩,l,_,_,_,rfl,rfl,SqL.of (by rw [z_m nlw];exact hl1),hat,_,rfl,_,_,rfl,rfl,(by show (0:Int)<2;decide),_,_,rfl,rfl,?_⟩
  dsimp only
  rw [hx]
  refine ⟨_,?_,_,ws++[m],rfl,rfl,v_f s1 hpw _,?_,?_,?_,?_,?_⟩
  ·lia
  ·rw [z_d];unfold w_z;rw [List.map_append];rfl
  ·lia
  ·rw [<-b3];exact hR
  ·rw [List.length_append,List.length_singleton];lia
  ·intro w hw
   rcases List.mem_append.mp hw with h | h
   ·exact hall w h
   ·rw [List.mem_singleton.mp h]
    exact ⟨hc,hR,b1⟩
theorem u_t(T:Tx w K mg A)(G_Classes_least:FnOk P w K mg base CX0 1 A.a_Classes_least A.d_Classes_least ["self", "end"] (u_p A.c_Classes)):FnOk P w K mg base CX0 2 A.a_Classes_alike A.d_Classes_alike ["self", "one", "other"] (v_m A.c_Classes):=by
 refine T.F_Classes_alike.ok u_w (fun vs H Q E h=>?_) (fun cdv A' outer s H vs Q E hr h=>?_)
 ·obtain ⟨o,l,n,R,a,b,rfl,hC,ha,hb,q⟩:=h
  rfl
 obtain ⟨o,l,n,R,a,b,rfl,hC,ha,hb,q⟩:=h
 refine ⟨_,(z_g (z_r (v_t k_d (x_p (pv 0) T.cl_Classes T.me_Classes_least G_Classes_least (hr.mono (by first | decide | lia)) T.B_Classes_least .nil pass0 (z_a (pv 1) z_b)) (x_p (pv 0) T.cl_Classes T.me_Classes_least G_Classes_least (hr.mono (by first | decide | lia)) T.B_Classes_least .nil pass0 (z_a (pv 2) z_b)) (nomark _)))),?_⟩
 obtain ⟨dx,ho⟩:=hC.1
 refine ⟨_,rfl,o,dx,_,rfl,ho,t_r (by decide),_,rfl,o,l,n,R,a,rfl,hC,ha,fun H1 ch1 hC1=>?_⟩
 obtain ⟨dx1,ho1⟩:=hC1.1
 refine ⟨_,rfl,o,dx1,_,rfl,ho1,t_r (by decide),_,rfl,o,l,n,R,b,rfl,hC1,hb,fun H2 ch2 hC2=>?_⟩
 refine ⟨rfl,?_⟩
 have e:decide (V.int ((R a:Nat):Int)=V.int ((R b:Nat):Int))=decide (R a=R b):=by
  by_cases h:R a=R b
  ·rw [h,decide_eq_true rfl,decide_eq_true rfl]
  ·rw [decide_eq_false h,decide_eq_false (by intro e;injection e with e;lia)]
 rw [e]
 exact q H2 (ch1.trans ch2) hC2
theorem t_y(T:Tx w K mg A)(G_Classes_least:FnOk P w K mg base CX0 1 A.a_Classes_least A.d_Classes_least ["self", "end"] (u_p A.c_Classes)):FnOk P w K mg base CX0 2 A.a_Classes_join A.d_Classes_join ["self", "one", "other"] (u_l A.c_Classes):=by
 refine T.F_Classes_join.ok sc_Classes_join (fun vs H Q E h=>?_) (fun cdv A' outer s H vs Q E hr h=>?_)
 ·obtain ⟨o,l,n,R,a,b,rfl,hC,ha,hb,q⟩:=h
  rfl
 obtain ⟨o,l,n,R,a,b,rfl,hC,ha,hb,q⟩:=h
 refine ⟨_,(z_e (z_z (i:=3) sc_Classes_join.nd rfl (Or.inl rfl) (z_n (q_b rfl) rfl T.min PyProof.Rows.boot_min (z_a (x_p (pv 0) T.cl_Classes T.me_Classes_least G_Classes_least (hr.mono (by first | decide | lia)) T.B_Classes_least .nil pass0 (z_a (pv 1) z_b)) (z_a (x_p (pv 0) T.cl_Classes T.me_Classes_least G_Classes_least (hr.mono (by first | decide | lia)) T.B_Classes_least .nil pass0 (z_a (pv 2) z_b)) z_b))))
  (z_e (z_z (i:=4) sc_Classes_join.nd rfl (Or.inl rfl) (z_n (q_a rfl) rfl T.max PyProof.Rows.boot_max (z_a (x_p (pv 0) T.cl_Classes T.me_Classes_least G_Classes_least (hr.mono (by first | decide | lia)) T.B_Classes_least .nil pass0 (z_a (pv 1) z_b)) (z_a (x_p (pv 0) T.cl_Classes T.me_Classes_least G_Classes_least (hr.mono (by first | decide | lia)) T.B_Classes_least .nil pass0 (z_a (pv 2) z_b)) z_b))))
  (z_e (x_d (y_d k_d (pv 3) (pv 4) (nomark _)) (z_g (z_r s_o)) z_x)
  (z_e (x_d (y_d k_d (z_l s_q (pv 3) z_c) (pv 4) (nomark _)) (z_g (z_r s_o)) z_x)
  (z_e (ps_asg (z_l s_q (pv 3) (z_l x_c (pv 4) z_c)) (pg_sub (pe_fld (pv 0) rfl) (z_l y_m (pv 4) z_c) n_d))
  (z_g (z_r s_o))))))),?_⟩
 obtain ⟨dx1,ho1⟩:=hC.1
 refine ⟨_,rfl,o,dx1,_,rfl,ho1,t_r (by decide),_,rfl,o,l,n,R,a,rfl,hC,ha,fun H1 ch1 hC1=>?_⟩
 obtain ⟨dx2,ho2⟩:=hC1.1
 refine ⟨_,rfl,o,dx2,_,rfl,ho2,t_r (by decide),_,rfl,o,l,n,R,b,rfl,hC1,hb,fun H2 ch2 hC2=>?_⟩
 refine ⟨_,_,rfl,?_⟩
 obtain ⟨dx3,ho3⟩:=hC2.1
 refine ⟨_,rfl,o,dx3,_,rfl,ho3,t_r (by decide),_,rfl,o,l,n,R,a,rfl,hC2,ha,fun H3 ch3 hC3=>?_⟩
 obtain ⟨dx4,ho4⟩:=hC3.1
 refine ⟨_,rfl,o,dx4,_,rfl,ho4,t_r (by decide),_,rfl,o,l,n,R,b,rfl,hC3,hb,fun H4 ch4 hC4=>?_⟩
 refine ⟨_,_,rfl,?_⟩
 have ch4:=((ch1.trans ch2).trans ch3).trans ch4
 have elo:(if ((R b:Nat):Int)<((R a:Nat):Int) then ((R b:Nat):Int) else ((R a:Nat):Int))=((min (R a) (R b):Nat):Int):=by
  split<;>lia
 have ehi:(if ((R b:Nat):Int) > ((R a:Nat):Int) then ((R b:Nat):Int) else ((R a:Nat):Int))=((max (R a) (R b):Nat):Int):=by
  split<;>lia
 obtain ⟨⟨dx,ho⟩,L,hl,u,hn⟩:=id hC4
 have lea:=u.le ha
 have leb:=u.le hb
 have rra:=u.rr ha
 have rrb:=u.rr hb
 have c1:=w_j (R a)
 have c2:=w_j (R b)
 have c3:=t_k (R a)
 have c4:=t_k (R b)
 generalize hlo:min (R a) (R b)=lo at elo q
 generalize hhi:max (R a) (R b)=hi at ehi q
 rw [elo,ehi]
 have c5:=w_j lo
 have c6:=t_k lo
 have xl:Builtin.bitXor ((lo:Nat):Int) 1=((lo^^^1:Nat):Int):=r_r lo 1
 refine ⟨_,rfl,_,rfl,rfl,_,rfl,?_⟩
 rcases q with ⟨h1,q⟩ | ⟨h1,q⟩ | ⟨h1,h2,q⟩
 ·refine v_x (decide_eq_true (by congr 1;lia)) ?_
  exact q H4 ch4 hC4
 ·refine x_f (decide_eq_false (by intro h;injection h with h;lia)) ?_
  refine ⟨_,rfl,_,_,rfl,rfl,_,rfl,rfl,_,rfl,?_⟩
  refine v_x (decide_eq_true (by dsimp only;rw [xl];congr 1;lia)) ?_
  exact q H4 ch4 hC4
 ·refine x_f (decide_eq_false (by intro h;injection h with h;lia)) ?_
  refine ⟨_,rfl,_,_,rfl,rfl,_,rfl,rfl,_,rfl,?_⟩
  refine x_f (decide_eq_false (by dsimp only;rw [xl];intro h;injection h with h;lia)) ?_
  have hx:Builtin.bitXor (lo:Int) ((hi:Int)%2)=((lo^^^(hi%2):Nat):Int):=by
   rw [show (hi:Int)%2=((hi%2:Nat):Int) by lia]
   exact r_r lo (hi%2)
  have hlt:lo/2<hi/2:=by lia
  have hhn:hi/2<n:=by lia
  have hRl:R lo=lo:=by
   have:lo=R a\/lo=R b:=by lia
   rcases this with h | h<;>rw [h]<;>assumption
  have hRh:R hi=hi:=by
   have:hi=R a\/hi=R b:=by lia
   rcases this with h | h<;>rw [h]<;>assumption
  refine ⟨_,rfl,_,rfl,_,_,rfl,rfl,(by show (0:Int)<2;decide),_,_,rfl,rfl,_,rfl,o,A.c_Classes,dx,_,_,rfl,ho,T.cl_Classes,T.n_Classes_lesser,q_g,_,rfl,_,_,rfl,rfl,⟨by decide,by decide⟩,l,_,_,hi/2,rfl,rfl,hl,?_,?_⟩
  ·exact o_t (by rw [u.len];exact hhn)
  ·dsimp only
   rw [hx,q_h]
   exact q _ (ch4.trans (Ch.put _)) ⟨⟨dx,by rw [z_m hC4.ne];exact ho⟩,_,z_d,u.join hRl hRh hlt hhn,hn⟩
theorem t_z(T:Tx w K mg A):FnOk P w K mg base CX0 1 A.a_NoPaper_init A.d_NoPaper_init ["self", "where", "at"] (p_x A.c_NoPaper):=by
 refine T.F_NoPaper_init.ok s_h (fun vs H Q E h=>?_) (fun cdv A' outer s H vs Q E hr h=>?_)
 ·obtain ⟨a,s,rfl,ha,hs,q⟩:=h
  rfl
 obtain ⟨a,s,rfl,ha,hs,q⟩:=h
 refine ⟨_,(z_e (y_o (pe_xinit rfl T.M_ForgeError T.gm_ForgeError (z_a (pv 0) (z_a (pe_join (.cons y_t (.cons (pe_fmt (pv 1)) (.cons y_t (.cons (pe_fmt (pv 2)) .nil))))) z_b))))
  (z_e (k_i rfl (pv 0) (pv 1) rfl)
  (z_g (k_i rfl (pv 0) (pv 2) rfl)))),?_⟩
 have h20:1000<=sizeLine:=by decide
 have e1:(Str.empty++Str.ofString "the paper fails: ").length=17:=by decide +kernel
 have e2:(Str.ofString " ").length=1:=by decide +kernel
 have e3:(Str.ofString (toString (0:Int))).length=1:=by decide +kernel
 refine ⟨_,rfl,_,rfl,(by rw [e1];lia),_,rfl,.inl ⟨s,rfl,by lia,_,rfl,(by rw [Str.length_append,e1];lia),?_⟩⟩
 refine ⟨_,rfl,(by rw [Str.length_append,Str.length_append,e1,e2];lia),_,rfl,.inr ⟨0,rfl,(by decide),_,rfl,(by rw [Str.length_append,Str.length_append,Str.length_append,e1,e2,e3];lia),?_⟩⟩
 refine ⟨a,A.c_NoPaper,A.c_ForgeError,A.a_NoPaper_init,none,_,rfl,ha,T.o_NoPaper,?_⟩
 refine ⟨_,rfl,_,rfl,a,A.c_NoPaper,A.c_ForgeError,A.a_NoPaper_init,rfl,T.o_NoPaper,T.sa_NoPaper,T.nf_where,.inl ⟨ha,fun d hd nd=>?_⟩⟩
 exact ⟨_,rfl,_,rfl,a,A.c_NoPaper,A.c_ForgeError,A.a_NoPaper_init,rfl,T.o_NoPaper,T.sa_NoPaper,T.nf_at,.inr ⟨d,1,by rw [z_m nd.symm,z_d],nd,z_d,by decide,q d hd nd⟩⟩
theorem m_c(T:Tx w K mg A):FnOk P w K mg base CX0 1 A.a_now_net A.d_now_net ["work"] s_s:=by
 refine T.F_now_net.ok m_k (fun vs H Q E h=>?_) (fun cdv A' outer s H vs Q E hr h=>?_)
 ·obtain ⟨w,b,g,o,W,rfl,hW,ok,q⟩:=h
  rfl
 obtain ⟨w,b,g,o,W,rfl,hW,ok,q⟩:=h
 refine ⟨_,(z_g (z_r (y_c (z_a (z_l z_w (z_o z_i (pv 0) z_c (fun _ _=>rfl)) (z_n z_s rfl T.len PySem.boot_len (z_a (z_o z_i (pv 0) z_c (fun _ _=>rfl)) z_b))) (z_a (w_k x_r rfl T.list PyProof.Rows.boot_list (z_a (z_o z_i (pv 0) z_c (fun _ _=>rfl)) z_b)) z_b))))),?_⟩
 obtain ⟨bs,hB⟩:=hW.b
 obtain ⟨gs,hG⟩:=hW.g
 refine ⟨_,rfl,w,_,_,_,rfl,rfl,SqT.of hW.w,rfl,_,rfl,w,_,_,_,rfl,rfl,SqT.of hW.w,rfl,_,_,rfl,.inl ⟨_,SqL.of hB.1,rfl⟩,_,_,rfl,rfl,_,rfl,w,_,_,_,rfl,rfl,SqT.of hW.w,rfl,g,_,rfl,.inl (SqL.of hG.1),fun g' hg'=>?_⟩
 have s1:=z_f hg' (.lst (gs.map V.ref))
 refine ⟨zl2,fun p hp=>?_⟩
 have s2:=z_f hp (.tup [.int ((W.ins:Int)+((bs.map V.ref).length:Nat)),.ref g'])
 have hne:p≠g':=fun e=>by rw [e,z_d] at hp;cases hp
 refine q p g' gs _ (s1.free hp) hg' hne (s1.trans s2) ⟨?_,⟨s2 _ _ z_d,(hG.same (s1.trans s2)).2⟩⟩
 rw [z_d,List.length_map,hB.length]
 push_cast
 rfl
theorem q_n(T:Tx w K mg A):FnOk P w K mg base CX0 1 A.a_start_end A.d_start_end ["work", "end"] v_h:=by
 refine T.F_start_end.ok sc_start_end (fun vs H Q E h=>?_) (fun cdv A' outer s H vs Q E hr h=>?_)
 ·obtain ⟨w,b,g,o,W,e,rfl,hW,ok,e0,q⟩:=h
  rfl
 obtain ⟨w,b,g,o,W,e,rfl,hW,ok,e0,q⟩:=h
 refine ⟨_,(z_e (z_z (i:=2) sc_start_end.nd rfl (Or.inl rfl) (z_l s_a (z_l s_a (z_l y_m (pv 1) z_c) (z_o z_i (pv 0) z_c (fun _ _=>rfl))) z_c))
  (z_e (x_d (y_d m_e (pv 2) z_c (nomark _)) (z_g (z_r (pv 1))) z_x)
  (z_e (x_d (y_d m_e (pv 2) (z_n z_s rfl T.len PySem.boot_len (z_a (z_o z_i (pv 0) z_c (fun _ _=>rfl)) z_b)) (nomark _)) (z_g (z_r (z_l s_q (z_o z_i (z_o v_y (z_o z_i (pv 0) z_c (fun _ _=>rfl)) (pv 2) (fun _ _=>rfl)) z_c (fun _ _=>rfl)) (z_l x_c (pv 1) z_c)))) z_x)
  (z_g (z_r (z_l s_a (pv 1) (z_l y_g z_c (z_n z_s rfl T.len PySem.boot_len (z_a (z_o z_i (pv 0) z_c (fun _ _=>rfl)) z_b))))))))),?_⟩
 obtain ⟨bs,hB⟩:=hW.b
 have hbl:(bs.map V.ref).length=W.boxes.length:=by rw [List.length_map,hB.length]
 refine ⟨_,rfl,_,_,rfl,rfl,⟨by decide,by decide⟩,_,rfl,w,_,_,_,rfl,rfl,SqT.of hW.w,rfl,_,_,rfl,rfl,_,_,rfl,rfl,?_⟩
 refine ⟨_,rfl,_,_,rfl,rfl,_,rfl,?_⟩
 unfold seF at q
 refine ite2 (fun c=>?_) (fun c=>?_)
 ·have c:e/2-W.ins-1<0:=of_decide_eq_true c
  rw [if_pos c] at q
  exact ⟨_,rfl,q⟩
 ·have c:¬e/2-W.ins-1<0:=fun h=>c (decide_eq_true h)
  rw [if_neg c] at q
  refine ⟨_,rfl,_,rfl,w,_,_,_,rfl,rfl,SqT.of hW.w,rfl,_,_,rfl,.inl ⟨_,SqL.of hB.1,rfl⟩,_,_,rfl,rfl,_,rfl,?_⟩
  refine ite2 (fun c2=>?_) (fun c2=>?_)
  ·have c2:e/2-W.ins-1<((bs.map V.ref).length:Nat):=of_decide_eq_true c2
   rw [hbl] at c2
   rw [if_pos c2] at q
   obtain ⟨k,hk⟩:=Int.eq_ofNat_of_zero_le (show 0<=e/2-W.ins-1 by lia)
   have hk2:k<W.boxes.length:=by lia
   obtain ⟨r,h1,h2⟩:=hB.get hk2
   refine ⟨_,rfl,w,_,_,_,rfl,rfl,SqT.of hW.w,rfl,_,rfl,b,_,_,_,rfl,rfl,SqL.of hB.1,(by rw [hk];exact t_g h1),r,_,_,_,rfl,rfl,SqT.of h2,rfl,_,rfl,_,_,rfl,rfl,(by show (0:Int)<2;decide),_,_,rfl,rfl,?_⟩
   dsimp only
   rw [xor_bit (ok.box _ (List.getElem_mem hk2)).1]
   rw [hk,Int.toNat_natCast,List.getD_eq_getElem?_getD,List.getElem?_eq_getElem hk2] at q
   exact q
  ·have c2:¬e/2-W.ins-1<((bs.map V.ref).length:Nat):=fun h=>c2 (decide_eq_true h)
   rw [hbl] at c2
   rw [if_neg c2] at q
   refine ⟨_,rfl,_,rfl,w,_,_,_,rfl,rfl,SqT.of hW.w,rfl,_,_,rfl,.inl ⟨_,SqL.of hB.1,rfl⟩,_,_,rfl,rfl,.inl ⟨by decide,by decide⟩,_,_,rfl,rfl,?_⟩
   rw [hbl]
   exact q
theorem q_o(T:Tx w K mg A)(G_start_end:FnOk P w K mg base CX0 1 A.a_start_end A.d_start_end ["work", "end"] v_h):FnOk P w K mg base CX0 2 A.a_start_net A.d_start_net ["work"] u_s:=by
 refine T.F_start_net.ok q_x (fun vs H Q E h=>?_) (fun cdv A' outer s H vs Q E hr h=>?_)
 ·obtain ⟨w,b,g,o,W,rfl,hW,ok,q⟩:=h
  rfl
 obtain ⟨w,b,g,o,W,rfl,hW,ok,q⟩:=h
 refine ⟨_,(z_g (z_r (y_c (z_a (z_o z_i (pv 0) z_c (fun _ _=>rfl)) (z_a (u_b ["one", "other"] [0] (fun _ _ h=>h) rfl (y_p (z_o z_i (pv 0) z_c (fun _ _=>rfl))) (fun _ _ _ _=>(x_a rfl (z_p (z_q (i:=0) (show (["one", "other", "work"]:List Str).Nodup by decide +kernel) rfl (Or.inl rfl)) (z_p (z_q (i:=1) (show (["one", "other", "work"]:List Str).Nodup by decide +kernel) rfl (Or.inl rfl)) y_v)))) x_s (fun _ _ _ _=>y_q) (fun _ _ _ _=>(y_c (z_a (z_j G_start_end (hr.mono (by first | decide | lia)) rfl T.M_start_end T.F_start_end.kp T.B_start_end .nil pass0 (z_a (pv 2) (z_a (pv 0) z_b))) (z_a (z_j G_start_end (hr.mono (by first | decide | lia)) rfl T.M_start_end T.F_start_end.kp T.B_start_end .nil pass0 (z_a (pv 2) (z_a (pv 1) z_b))) z_b)))) rfl (show ∀ j∈([0]:List Nat),j<1 by decide)) z_b))))),?_⟩
 obtain ⟨gs,hG⟩:=hW.g
 refine ⟨_,rfl,w,_,_,_,rfl,rfl,SqT.of hW.w,rfl,_,rfl,w,_,_,_,rfl,rfl,SqT.of hW.w,rfl,g,rfl,⟨_,SqL.of hG.1⟩,y_f (fun p=>(seF W p.1,seF W p.2)) hG (by have:=ok.gates;lia) (fun p hp H1 s1 N hN=>?_) fun bs H1 s1 hb g' hg'=>?_⟩
 ·obtain ⟨k,hk⟩:=List.mem_iff_getElem?.mp hp
  obtain ⟨⟨a0,_⟩,b0,_⟩:=ok.gate k p hk
  exact ⟨_,rfl,_,rfl,w,b,g,o,W,_,rfl,hW.same s1,ok,a0,_,rfl,_,rfl,w,b,g,o,W,_,rfl,hW.same s1,ok,b0,zl2,hN⟩
 have s2:=z_f hg' (.lst (bs.map V.ref))
 refine ⟨zl2,fun p hp=>?_⟩
 have s3:=z_f hp (.tup [.int W.ins,.ref g'])
 have hne:p≠g':=fun e=>by rw [e,z_d] at hp;cases hp
 exact q p g' bs _ ((s1.trans s2).free hp) (s1.free hg') hne ((s1.trans s2).trans s3) ⟨z_d,⟨s3 _ _ z_d,z_t (fun r x h=>(s2.trans s3) _ _ h) hb⟩⟩
theorem m_b(T:Tx w K mg A):FnOk P w K mg base CX0 1 A.a_now_end A.d_now_end ["work", "end"] v_n:=by
 refine T.F_now_end.ok m_j (fun vs H Q E h=>?_) (fun cdv A' outer s H vs Q E hr h=>?_)
 ·obtain ⟨w,b,g,o,W,e,rfl,hW,ok,e0,q⟩:=h
  rfl
 obtain ⟨w,b,g,o,W,e,rfl,hW,ok,e0,q⟩:=h
 refine ⟨_,(z_e (x_d (y_d m_d (z_l y_m (pv 1) z_c) (z_l z_w (z_o z_i (pv 0) z_c (fun _ _=>rfl)) (z_n z_s rfl T.len PySem.boot_len (z_a (z_o z_i (pv 0) z_c (fun _ _=>rfl)) z_b))) (nomark _)) (z_g (z_r (pv 1))) z_x)
  (z_g (z_r (z_l z_w (pv 1) (z_l y_g z_c (z_o z_i (pv 0) z_c (fun _ _=>rfl))))))),?_⟩
 obtain ⟨bs,hB⟩:=hW.b
 have hbl:(bs.map V.ref).length=W.boxes.length:=by rw [List.length_map,hB.length]
 refine ⟨_,rfl,_,_,rfl,rfl,⟨by decide,by decide⟩,_,rfl,w,_,_,_,rfl,rfl,SqT.of hW.w,rfl,_,rfl,w,_,_,_,rfl,rfl,SqT.of hW.w,rfl,_,_,rfl,.inl ⟨_,SqL.of hB.1,rfl⟩,_,_,rfl,rfl,_,_,rfl,rfl,_,rfl,?_⟩
 unfold neF at q
 refine ite2 (fun c=>?_) (fun c=>?_)
 ·have c:e/2<=(W.ins:Int)+((bs.map V.ref).length:Nat):=of_decide_eq_true c
  rw [hbl] at c
  rw [if_pos c] at q
  exact ⟨_,rfl,q⟩
 ·have c:¬e/2<=(W.ins:Int)+((bs.map V.ref).length:Nat):=fun h=>c (decide_eq_true h)
  rw [hbl] at c
  rw [if_neg c] at q
  exact ⟨_,rfl,_,rfl,w,_,_,_,rfl,rfl,SqT.of hW.w,rfl,_,_,rfl,rfl,.inl ⟨by decide,by decide⟩,_,_,rfl,rfl,q⟩
theorem p_w(T:Tx w K mg A)(G_now_end:FnOk P w K mg base CX0 1 A.a_now_end A.d_now_end ["work", "end"] v_n):FnOk P w K mg base CX0 2 A.a_then_end A.d_then_end ["work", "end"] v_u:=by
 refine T.F_then_end.ok sc_then_end (fun vs H Q E h=>?_) (fun cdv A' outer s H vs Q E hr h=>?_)
 ·obtain ⟨w,b,g,o,W,e,rfl,hW,ok,e0,q⟩:=h
  rfl
 obtain ⟨w,b,g,o,W,e,rfl,hW,ok,e0,q⟩:=h
 refine ⟨_,(z_e (x_d (y_d m_e (pv 1) z_c (nomark _)) (z_g (z_r (pv 1))) z_x)
  (z_e (z_z (i:=2) sc_then_end.nd rfl (Or.inl rfl) (z_l s_a (z_l s_a (z_l y_m (pv 1) z_c) (z_o z_i (pv 0) z_c (fun _ _=>rfl))) z_c))
  (z_e (x_d (y_d m_e (pv 2) z_c (nomark _)) (z_g (z_r (z_l z_w (pv 1) (z_l y_g z_c (z_l z_w (z_o z_i (pv 0) z_c (fun _ _=>rfl)) (z_n z_s rfl T.len PySem.boot_len (z_a (z_o z_i (pv 0) z_c (fun _ _=>rfl)) z_b))))))) z_x)
  (z_e (x_d (y_d m_e (pv 2) (z_n z_s rfl T.len PySem.boot_len (z_a (z_o z_i (pv 0) z_c (fun _ _=>rfl)) z_b)) (nomark _)) (z_g (z_r (z_l s_q (z_j G_now_end (hr.mono (by first | decide | lia)) rfl T.M_now_end T.F_now_end.kp T.B_now_end .nil pass0 (z_a (pv 0) (z_a (z_o z_i (z_o v_y (z_o z_i (pv 0) z_c (fun _ _=>rfl)) (pv 2) (fun _ _=>rfl)) z_c (fun _ _=>rfl)) z_b))) (z_l x_c (pv 1) z_c)))) z_x)
  (z_g (z_r (z_l z_w (pv 1) (z_l y_g z_c (z_l z_w (z_o z_i (pv 0) z_c (fun _ _=>rfl)) (z_n z_s rfl T.len PySem.boot_len (z_a (z_o z_i (pv 0) z_c (fun _ _=>rfl)) z_b))))))))))),?_⟩
 obtain ⟨bs,hB⟩:=hW.b
 obtain ⟨gs,hG⟩:=hW.g
 have hbl:(bs.map V.ref).length=W.boxes.length:=by rw [List.length_map,hB.length]
 have hgl:(gs.map V.ref).length=W.gates.length:=by rw [List.length_map,hG.length]
 refine ⟨_,rfl,_,_,rfl,rfl,_,rfl,?_⟩
 unfold teF at q
 refine ite2 (fun c=>?_) (fun c=>?_)
 ·have c:e<2:=of_decide_eq_true c
  rw [if_pos c] at q
  exact ⟨_,rfl,q⟩
 have c:¬e<2:=fun h=>c (decide_eq_true h)
 rw [if_neg c] at q
 refine ⟨_,rfl,_,_,rfl,rfl,⟨by decide,by decide⟩,_,rfl,w,_,_,_,rfl,rfl,SqT.of hW.w,rfl,_,_,rfl,rfl,_,_,rfl,rfl,?_⟩
 refine ⟨_,rfl,_,_,rfl,rfl,_,rfl,?_⟩
 refine ite2 (fun c2=>?_) (fun c2=>?_)
 ·have c2:e/2-W.ins-1<0:=of_decide_eq_true c2
  rw [if_pos c2] at q
  refine ⟨_,rfl,_,rfl,w,_,_,_,rfl,rfl,SqT.of hW.w,rfl,_,rfl,w,_,_,_,rfl,rfl,SqT.of hW.w,rfl,_,_,rfl,.inl ⟨_,SqL.of hB.1,rfl⟩,_,_,rfl,rfl,_,_,rfl,rfl,.inl ⟨by decide,by decide⟩,_,_,rfl,rfl,?_⟩
  rw [hbl]
  exact q
 have c2:¬e/2-W.ins-1<0:=fun h=>c2 (decide_eq_true h)
 rw [if_neg c2] at q
 refine ⟨_,rfl,_,rfl,w,_,_,_,rfl,rfl,SqT.of hW.w,rfl,_,_,rfl,.inl ⟨_,SqL.of hB.1,rfl⟩,_,_,rfl,rfl,_,rfl,?_⟩
 refine ite2 (fun c3=>?_) (fun c3=>?_)
 ·have c3:e/2-W.ins-1<((bs.map V.ref).length:Nat):=of_decide_eq_true c3
  rw [hbl] at c3
  rw [if_pos c3] at q
  obtain ⟨k,hk⟩:=Int.eq_ofNat_of_zero_le (show 0<=e/2-W.ins-1 by lia)
  have hk2:k<W.boxes.length:=by lia
  obtain ⟨r,h1,h2⟩:=hB.get hk2
  have hb2:=(ok.box _ (List.getElem_mem hk2)).2.1
  rw [hk,Int.toNat_natCast,List.getD_eq_getElem?_getD,List.getElem?_eq_getElem hk2] at q
  refine ⟨_,rfl,_,rfl,w,_,_,_,rfl,rfl,SqT.of hW.w,rfl,_,rfl,b,_,_,_,rfl,rfl,SqL.of hB.1,(by rw [hk];exact t_g h1),r,_,_,_,rfl,rfl,SqT.of h2,rfl,w,b,g,o,W,_,rfl,hW,ok,hb2,_,rfl,_,_,rfl,rfl,(by show (0:Int)<2;decide),_,_,rfl,rfl,?_⟩
  dsimp only
  rw [xor_xr]
  exact q
 ·have c3:¬e/2-W.ins-1<((bs.map V.ref).length:Nat):=fun h=>c3 (decide_eq_true h)
  rw [hbl] at c3
  rw [if_neg c3] at q
  refine ⟨_,rfl,_,rfl,w,_,_,_,rfl,rfl,SqT.of hW.w,rfl,_,rfl,w,_,_,_,rfl,rfl,SqT.of hW.w,rfl,_,_,rfl,.inl ⟨_,SqL.of hG.1,rfl⟩,_,_,rfl,rfl,_,_,rfl,rfl,.inl ⟨by decide,by decide⟩,_,_,rfl,rfl,?_⟩
  rw [hgl]
  exact q
theorem p_v(T:Tx w K mg A)(G_now_end:FnOk P w K mg base CX0 1 A.a_now_end A.d_now_end ["work", "end"] v_n)(G_then_end:FnOk P w K mg base CX0 2 A.a_then_end A.d_then_end ["work", "end"] v_u):FnOk P w K mg base CX0 3 A.a_next_net A.d_next_net ["work"] s_k:=by
 refine T.F_next_net.ok sc_next_net (fun vs H Q E h=>?_) (fun cdv A' outer s H vs Q E hr h=>?_)
 ·obtain ⟨w,b,g,o,W,rfl,hW,ok,q⟩:=h
  rfl
 obtain ⟨w,b,g,o,W,rfl,hW,ok,q⟩:=h
 refine ⟨_,(z_e (t_c ["one", "other"] [0] sc_next_net.nd (i:=1) rfl (Or.inl rfl) (fun _ _ h=>h) rfl (y_p (z_o z_i (pv 0) z_c (fun _ _=>rfl))) (fun _ _ _ _=>(x_a rfl (z_p (z_q (i:=0) (show (["one", "other", "work"]:List Str).Nodup by decide +kernel) rfl (Or.inl rfl)) (z_p (z_q (i:=1) (show (["one", "other", "work"]:List Str).Nodup by decide +kernel) rfl (Or.inl rfl)) y_v)))) x_s (fun _ _ _ _=>y_q) (fun _ _ _ _=>(y_c (z_a (z_j G_now_end (hr.mono (by first | decide | lia)) rfl T.M_now_end T.F_now_end.kp T.B_now_end .nil pass0 (z_a (pv 2) (z_a (pv 0) z_b))) (z_a (z_j G_now_end (hr.mono (by first | decide | lia)) rfl T.M_now_end T.F_now_end.kp T.B_now_end .nil pass0 (z_a (pv 2) (z_a (pv 1) z_b))) z_b)))) rfl (show ∀ j∈([0]:List Nat),j<2 by decide) (by with_unfolding_all rfl))
  (z_e (y_o (q_q PySem.F.plainAttrs_list PySem.F.slot_list_extend PySem.F.type_list_extend u_a (pv 1) (z_a (u_b ["one", "other"] [0] (fun _ _ h=>h) rfl (y_p (z_o z_i (pv 0) z_c (fun _ _=>rfl))) (fun _ _ _ _=>(x_a rfl (z_p (z_q (i:=0) (show (["one", "other", "work"]:List Str).Nodup by decide +kernel) rfl (Or.inl rfl)) (z_p (z_q (i:=1) (show (["one", "other", "work"]:List Str).Nodup by decide +kernel) rfl (Or.inl rfl)) y_v)))) x_s (fun _ _ _ _=>y_q) (fun _ _ _ _=>(y_c (z_a (z_j G_then_end (hr.mono (by first | decide | lia)) rfl T.M_then_end T.F_then_end.kp T.B_then_end .nil pass0 (z_a (pv 2) (z_a (pv 0) z_b))) (z_a (z_j G_then_end (hr.mono (by first | decide | lia)) rfl T.M_then_end T.F_then_end.kp T.B_then_end .nil pass0 (z_a (pv 2) (z_a (pv 1) z_b))) z_b)))) rfl (show ∀ j∈([0]:List Nat),j<2 by decide)) z_b)))
  (z_g (z_r (y_c (z_a (z_l z_w (z_l y_g z_c (z_o z_i (pv 0) z_c (fun _ _=>rfl))) (z_n z_s rfl T.len PySem.boot_len (z_a (z_o z_i (pv 0) z_c (fun _ _=>rfl)) z_b))) (z_a (pv 1) z_b))))))),?_⟩
 obtain ⟨bs,hB⟩:=hW.b
 obtain ⟨gs,hG⟩:=hW.g
 have hg2:=ok.gates
 have ends:∀ p∈W.gates,0<=p.1/\0<=p.2:=fun p hp=>by
  obtain ⟨k,hk⟩:=List.mem_iff_getElem?.mp hp
  obtain ⟨⟨a0,_⟩,b0,_⟩:=ok.gate k p hk
  exact ⟨a0,b0⟩
 refine ⟨_,rfl,w,_,_,_,rfl,rfl,SqT.of hW.w,rfl,g,rfl,⟨_,SqL.of hG.1⟩,y_f (fun p=>(neF W p.1,neF W p.2)) hG (by lia) (fun p hp H1 s1 N hN=>?_) fun ts H1 s1 hb g' hg'=>?_⟩
 ·exact ⟨_,rfl,_,rfl,w,b,g,o,W,_,rfl,hW.same s1,ok,(ends p hp).1,_,rfl,_,rfl,w,b,g,o,W,_,rfl,hW.same s1,ok,(ends p hp).2,zl2,hN⟩
 have s2:=z_f hg' (.lst (ts.map V.ref))
 have hW2:=hW.same (s1.trans s2)
 have hG2:=hG.same (s1.trans s2)
 refine ⟨_,rfl,.inl ⟨rfl,_,SqL.of z_d⟩,_,rfl,w,_,_,_,rfl,rfl,SqT.of hW2.w,rfl,g,rfl,⟨_,SqL.of hG2.1⟩,y_f (fun p=>(teF W p.1,teF W p.2)) hG2 (by lia) (fun p hp H3 s3 N hN=>?_) fun us H3 s3 hb3 g3 hg3=>?_⟩
 ·exact ⟨_,rfl,_,rfl,w,b,g,o,W,_,rfl,hW2.same s3,ok,(ends p hp).1,_,rfl,_,rfl,w,b,g,o,W,_,rfl,hW2.same s3,ok,(ends p hp).2,zl2,hN⟩
 have hgp:g'≠g3:=fun e=>by
  have:=s3 _ _ (z_d (H:=H1) (a:=g') (o:=.lst (ts.map V.ref)))
  rw [e,hg3] at this
  cases this
 have s4:=z_f hg3 (.lst (us.map V.ref))
 have hl1:ts.length=W.gates.length:=by rw [Paired.length hb,List.length_map]
 have hl2:us.length=W.gates.length:=by rw [Paired.length hb3,List.length_map]
 refine ⟨g',g3,_,_,rfl,rfl,(s3.trans s4) _ _ z_d,z_d,(by rw [List.length_map,List.length_map,hl1,hl2];exact small (by lia)),?_⟩
 have hng:=s1.free hg'
 have s5:=v_f (s1.trans (s2.trans (s3.trans s4))) hng (.lst (ts.map V.ref++us.map V.ref))
 have hW5:=hW.same s5
 refine ⟨_,rfl,w,_,_,_,rfl,rfl,SqT.of hW5.w,rfl,_,_,rfl,rfl,.inl ⟨by decide,by decide⟩,_,rfl,w,_,_,_,rfl,rfl,SqT.of hW5.w,rfl,_,_,rfl,.inl ⟨_,SqL.of (s5 _ _ hB.1),rfl⟩,_,_,rfl,rfl,_,rfl,zl2,fun p hp=>?_⟩
 have s6:=z_f hp (.tup [.int (2*(W.ins:Int)+((bs.map V.ref).length:Nat)),.ref g'])
 have hne:p≠g':=fun e=>by rw [e,z_d] at hp;cases hp
 refine q p g' (ts++us) _ (s5.free hp) hng hne (s5.trans s6) ⟨?_,s6 _ _ (by rw [z_d,List.map_append]),?_⟩
 ·rw [z_d,List.length_map,hB.length]
  push_cast
  rfl
 ·have keep:∀ {r:Addr} {xs:List V},H3 r=some (.tup xs)->(upd (upd (upd H3 g3 (.lst (us.map V.ref))) g' (.lst (ts.map V.ref++us.map V.ref))) p (.tup [.int (2*(W.ins:Int)+((bs.map V.ref).length:Nat)),.ref g'])) r=some (.tup xs):=fun {r xs} h=>by
   have h1:=s4 _ _ h
   have hr:r≠g':=fun e=>by
    rw [e,s3 _ _ z_d] at h
    cases h
   exact s6 _ _ (by rw [z_m hr];exact h1)
  have a1:=z_t (S:=fun r (x:Int×Int)=>(upd (upd (upd H3 g3 (.lst (us.map V.ref))) g' (.lst (ts.map V.ref++us.map V.ref))) p (.tup [.int (2*(W.ins:Int)+((bs.map V.ref).length:Nat)),.ref g'])) r=some (.tup [.int x.1,.int x.2])) (fun r x h=>keep ((s2.trans s3) _ _ h)) hb
  have a2:=z_t (S:=fun r (x:Int×Int)=>(upd (upd (upd H3 g3 (.lst (us.map V.ref))) g' (.lst (ts.map V.ref++us.map V.ref))) p (.tup [.int (2*(W.ins:Int)+((bs.map V.ref).length:Nat)),.ref g'])) r=some (.tup [.int x.1,.int x.2])) (fun r x h=>keep h) hb3
  exact pairedApp a2 a1
theorem p_s(T:Tx w K mg A):FnOk P w K mg base CX0 1 A.a_is_whole A.d_is_whole ["thing"] p_h:=by
 refine T.F_is_whole.ok o_c (fun vs H Q E h=>?_) (fun cdv A' outer s H vs Q E hr h=>?_)
 ·obtain ⟨i,rfl,q⟩:=h
  rfl
 obtain ⟨i,rfl,q⟩:=h
 refine ⟨_,(z_g (z_r (q_p (z_n (w_s (T := "int")) rfl T.isinstance PyProof.Rows.boot_isinstance (z_a (pv 0) (z_a (v_s (v:=.ty "int") rfl T.int PyProof.Rows.boot_int rfl) z_b))) (o_y (pe_not (z_n (w_s (T := "bool")) rfl T.isinstance PyProof.Rows.boot_isinstance (z_a (pv 0) (z_a (v_s (v:=.ty "bool") rfl T.bool PyProof.Rows.boot_bool rfl) z_b)))))))),?_⟩
 refine ⟨_,rfl,_,_,true,rfl,TyOf.int _,rfl,_,rfl,?_⟩
 exact iteT ⟨_,rfl,_,_,false,rfl,TyOf.int _,rfl,_,rfl,q⟩
theorem r_b(T:Tx w K mg A)(G_is_whole:FnOk P w K mg base CX0 1 A.a_is_whole A.d_is_whole ["thing"] p_h):FnOk P w K mg base CX0 2 A.a_is_between A.d_is_between ["thing", "low", "high"] k_q:=by
 refine T.F_is_between.ok r_m (fun vs H Q E h=>?_) (fun cdv A' outer s H vs Q E hr h=>?_)
 ·obtain ⟨i,lo,hi,rfl,q⟩:=h
  rfl
 obtain ⟨i,lo,hi,rfl,q⟩:=h
 refine ⟨_,(z_g (z_r (q_p (z_j G_is_whole (hr.mono (by first | decide | lia)) rfl T.M_is_whole T.F_is_whole.kp T.B_is_whole .nil pass0 (z_a (pv 0) z_b)) (o_y (pe_chain m_d m_d (pv 1) (pv 0) (pv 2)))))),?_⟩
 refine ⟨_,rfl,i,rfl,_,rfl,?_⟩
 refine iteT ⟨_,rfl,_,rfl,_,_,rfl,rfl,_,rfl,?_⟩
 by_cases h:lo<=i
 ·rw [decide_eq_true h,Bool.true_and] at q
  exact v_x (decide_eq_true h) ⟨_,rfl,_,_,rfl,rfl,q⟩
 ·rw [decide_eq_false h,Bool.false_and] at q
  exact x_f (decide_eq_false h) q
theorem p_t(T:Tx w K mg A):FnOk P w K mg base CX0 1 A.a_knots_in A.d_knots_in ["work"] n_f:=by
 refine T.F_knots_in.ok o_d (fun vs H Q E h=>?_) (fun cdv A' outer s H vs Q E hr h=>?_)
 ·obtain ⟨w,b,g,o,W,rfl,hW,q⟩:=h
  rfl
 obtain ⟨w,b,g,o,W,rfl,hW,q⟩:=h
 refine ⟨_,(z_g (z_r (z_l z_w (z_l z_w (z_l z_w z_c (z_o z_i (pv 0) z_c (fun _ _=>rfl))) (z_n z_s rfl T.len PySem.boot_len (z_a (z_o z_i (pv 0) z_c (fun _ _=>rfl)) z_b))) (z_n z_s rfl T.len PySem.boot_len (z_a (z_o z_i (pv 0) z_c (fun _ _=>rfl)) z_b))))),?_⟩
 obtain ⟨bs,hb⟩:=hW.b
 obtain ⟨gs,hg⟩:=hW.g
 refine ⟨_,rfl,w,_,_,_,rfl,rfl,SqT.of hW.w,rfl,_,_,rfl,rfl,_,rfl,w,_,_,_,rfl,rfl,SqT.of hW.w,rfl,_,_,rfl,.inl ⟨_,SqL.of hb.1,rfl⟩,_,_,rfl,rfl,_,rfl,w,_,_,_,rfl,rfl,SqT.of hW.w,rfl,_,_,rfl,.inl ⟨_,SqL.of hg.1,rfl⟩,_,_,rfl,rfl,?_⟩
 show Q (V.int (1+(W.ins:Int)+(((bs.map V.ref).length:Nat):Int)+(((gs.map V.ref).length:Nat):Int))) H
 rw [List.length_map,List.length_map,hb.length,hg.length,show 1+(W.ins:Int)+((W.boxes.length:Nat):Int)+((W.gates.length:Nat):Int)=((W.knots:Nat):Int) by rw [W.knots_is];lia]
 exact q
theorem k_c(T:Tx w K mg A)(G_is_between:FnOk P w K mg base CX0 2 A.a_is_between A.d_is_between ["thing", "low", "high"] k_q):FnOk P w K mg base CX0 3 A.a_is_end A.d_is_end ["thing", "knots"] k_r:=by
 refine T.F_is_end.ok k_n (fun vs H Q E h=>?_) (fun cdv A' outer s H vs Q E hr h=>?_)
 ·obtain ⟨i,k,rfl,q⟩:=h
  rfl
 obtain ⟨i,k,rfl,q⟩:=h
 refine ⟨_,(z_g (z_r (z_j G_is_between (hr.mono (by first | decide | lia)) rfl T.M_is_between T.F_is_between.kp T.B_is_between .nil pass0 (z_a (pv 0) (z_a z_c (z_a (z_l s_a (z_l y_g z_c (pv 1)) z_c) z_b)))))),?_⟩
 exact ⟨_,rfl,_,rfl,_,_,rfl,rfl,.inl ⟨by decide,by decide⟩,_,_,rfl,rfl,i,_,_,rfl,q⟩
theorem m_a(T:Tx w K mg A)(G_is_end:FnOk P w K mg base CX0 3 A.a_is_end A.d_is_end ["thing", "knots"] k_r):FnOk P w K mg base CX0 4 A.a_is_pair A.d_is_pair ["thing", "knots"] s_j:=by
 refine T.F_is_pair.ok m_i (fun vs H Q E h=>?_) (fun cdv A' outer s H vs Q E hr h=>?_)
 ·obtain ⟨r,p,k,rfl,hp,h1,h2,q⟩:=h
  rfl
 obtain ⟨r,p,k,rfl,hp,h1,h2,q⟩:=h
 refine ⟨_,(z_g (z_r (q_p (z_n (w_s (T := "tuple")) rfl T.isinstance PyProof.Rows.boot_isinstance (z_a (pv 0) (z_a (v_s (v:=.ty "tuple") rfl T.tuple PyProof.Rows.boot_tuple rfl) z_b))) (q_p (v_t k_d (z_n z_s rfl T.len PySem.boot_len (z_a (pv 0) z_b)) z_c (nomark _)) (q_p (z_j G_is_end (hr.mono (by first | decide | lia)) rfl T.M_is_end T.F_is_end.kp T.B_is_end .nil pass0 (z_a (z_o z_i (pv 0) z_c (fun _ _=>rfl)) (z_a (pv 1) z_b))) (o_y (z_j G_is_end (hr.mono (by first | decide | lia)) rfl T.M_is_end T.F_is_end.kp T.B_is_end .nil pass0 (z_a (z_o z_i (pv 0) z_c (fun _ _=>rfl)) (z_a (pv 1) z_b))))))))),?_⟩
 refine ⟨_,rfl,_,_,true,rfl,TyOf.tup hp,rfl,_,rfl,iteT ?_⟩
 refine ⟨_,rfl,_,_,rfl,.inr ⟨_,SqT.of hp,rfl⟩,rfl,_,rfl,v_x (by show decide (V.int ((2:Nat):Int)=V.int 2)=true;decide) ?_⟩
 refine ⟨_,rfl,r,_,_,_,rfl,rfl,SqT.of hp,rfl,_,rfl,_,_,rfl,_,rfl,v_x (by simp only [Bool.and_eq_true,decide_eq_true_eq];lia) ?_⟩
 refine ⟨_,rfl,r,_,_,_,rfl,rfl,SqT.of hp,rfl,_,rfl,_,_,rfl,?_⟩
 have e:(decide ((0:Int)<=(p.2:Int))&&decide ((p.2:Int)<=2*(k:Int)-1))=true:=by simp only [Bool.and_eq_true,decide_eq_true_eq];lia
 rw [e]
 exact q
theorem q_k(T:Tx w K mg A):FnOk P w K mg base CX0 1 A.a_first_end A.d_first_end ["one", "other", "end"] v_g:=by
 refine T.F_first_end.ok q_v (fun vs H Q E h=>?_) (fun cdv A' outer s H vs Q E hr h=>?_)
 ·obtain ⟨w,b,g,o,w',b',g',o',A,B,e,rfl,hA,hB,q⟩:=h
  rfl
 obtain ⟨w,b,g,o,w',b',g',o',A,B,e,rfl,hA,hB,q⟩:=h
 refine ⟨_,(z_e (x_d (y_d m_d (z_l y_m (pv 2) z_c) (z_l z_w (z_o z_i (pv 0) z_c (fun _ _=>rfl)) (z_n z_s rfl T.len PySem.boot_len (z_a (z_o z_i (pv 0) z_c (fun _ _=>rfl)) z_b))) (nomark _)) (z_g (z_r (pv 2))) z_x)
  (z_g (z_r (z_l z_w (pv 2) (z_l y_g z_c (z_n z_s rfl T.len PySem.boot_len (z_a (z_o z_i (pv 1) z_c (fun _ _=>rfl)) z_b))))))),?_⟩
 obtain ⟨bs,hb⟩:=hA.b
 obtain ⟨cs,hc⟩:=hB.b
 have hbl:(bs.map V.ref).length=A.boxes.length:=by rw [List.length_map,hb.length]
 have hcl:(cs.map V.ref).length=B.boxes.length:=by rw [List.length_map,hc.length]
 refine ⟨_,rfl,_,_,rfl,rfl,⟨by decide,by decide⟩,_,rfl,w,_,_,_,rfl,rfl,SqT.of hA.w,rfl,_,rfl,w,_,_,_,rfl,rfl,SqT.of hA.w,rfl,_,_,rfl,.inl ⟨_,SqL.of hb.1,rfl⟩,_,_,rfl,rfl,_,_,rfl,rfl,_,rfl,?_⟩
 refine ite2 (fun c=>?_) (fun c=>?_)
 ·have c:e/2<=(A.ins:Int)+((bs.map V.ref).length:Nat):=of_decide_eq_true c
  rw [hbl] at c
  have he:F1 A B e=e:=by
   unfold F1 leF
   split
   ·lia
   ·split<;>lia
  rw [he] at q
  exact ⟨_,rfl,q⟩
 ·have c:¬e/2<=(A.ins:Int)+((bs.map V.ref).length:Nat):=fun h=>c (decide_eq_true h)
  rw [hbl] at c
  have he:F1 A B e=e+2*(B.boxes.length:Nat):=by
   unfold F1 leF
   rw [if_pos (by lia)]
   lia
  rw [he,<-hcl] at q
  exact ⟨_,rfl,_,rfl,w',_,_,_,rfl,rfl,SqT.of hB.w,rfl,_,_,rfl,.inl ⟨_,SqL.of hc.1,rfl⟩,_,_,rfl,rfl,.inl ⟨by decide,by decide⟩,_,_,rfl,rfl,q⟩
theorem r_e(T:Tx w K mg A):FnOk P w K mg base CX0 1 A.a_second_end A.d_second_end ["one", "other", "end"] w_x:=by
 refine T.F_second_end.ok r_n (fun vs H Q E h=>?_) (fun cdv A' outer s H vs Q E hr h=>?_)
 ·obtain ⟨w,b,g,o,w',b',g',o',A,B,e,rfl,hA,hB,hi,q⟩:=h
  rfl
 obtain ⟨w,b,g,o,w',b',g',o',A,B,e,rfl,hA,hB,hi,q⟩:=h
 refine ⟨_,(z_e (x_d (y_d m_d (z_l y_m (pv 2) z_c) (z_o z_i (pv 1) z_c (fun _ _=>rfl)) (nomark _)) (z_g (z_r (pv 2))) z_x)
  (z_e (x_d (y_d m_d (z_l y_m (pv 2) z_c) (z_l z_w (z_o z_i (pv 1) z_c (fun _ _=>rfl)) (z_n z_s rfl T.len PySem.boot_len (z_a (z_o z_i (pv 1) z_c (fun _ _=>rfl)) z_b))) (nomark _)) (z_g (z_r (z_l z_w (pv 2) (z_l y_g z_c (z_n z_s rfl T.len PySem.boot_len (z_a (z_o z_i (pv 0) z_c (fun _ _=>rfl)) z_b)))))) z_x)
  (z_g (z_r (z_l z_w (pv 2) (z_l y_g z_c (z_l z_w (z_n z_s rfl T.len PySem.boot_len (z_a (z_o z_i (pv 0) z_c (fun _ _=>rfl)) z_b)) (z_n z_s rfl T.len PySem.boot_len (z_a (z_o z_i (pv 0) z_c (fun _ _=>rfl)) z_b))))))))),?_⟩
 obtain ⟨bs,hb⟩:=hA.b
 obtain ⟨gs,hg⟩:=hA.g
 obtain ⟨cs,hc⟩:=hB.b
 have hbl:(bs.map V.ref).length=A.boxes.length:=by rw [List.length_map,hb.length]
 have hgl:(gs.map V.ref).length=A.gates.length:=by rw [List.length_map,hg.length]
 have hcl:(cs.map V.ref).length=B.boxes.length:=by rw [List.length_map,hc.length]
 refine ⟨_,rfl,_,_,rfl,rfl,⟨by decide,by decide⟩,_,rfl,w',_,_,_,rfl,rfl,SqT.of hB.w,rfl,_,_,rfl,rfl,_,rfl,?_⟩
 refine ite2 (fun c=>?_) (fun c=>?_)
 ·have c:e/2<=(B.ins:Int):=of_decide_eq_true c
  have he:F2 A B e=e:=by
   unfold F2 leF
   rw [if_neg (by lia),if_neg (by lia)]
   lia
  rw [he] at q
  exact ⟨_,rfl,q⟩
 have c:¬e/2<=(B.ins:Int):=fun h=>c (decide_eq_true h)
 refine ⟨_,rfl,_,_,rfl,rfl,⟨by decide,by decide⟩,_,rfl,w',_,_,_,rfl,rfl,SqT.of hB.w,rfl,_,rfl,w',_,_,_,rfl,rfl,SqT.of hB.w,rfl,_,_,rfl,.inl ⟨_,SqL.of hc.1,rfl⟩,_,_,rfl,rfl,_,_,rfl,rfl,_,rfl,?_⟩
 refine ite2 (fun c2=>?_) (fun c2=>?_)
 ·have c2:e/2<=(B.ins:Int)+((cs.map V.ref).length:Nat):=of_decide_eq_true c2
  rw [hcl] at c2
  have he:F2 A B e=e+2*(A.boxes.length:Nat):=by
   unfold F2 leF
   rw [if_neg (by lia),if_pos (by lia)]
   lia
  rw [he,<-hbl] at q
  exact ⟨_,rfl,_,rfl,w,_,_,_,rfl,rfl,SqT.of hA.w,rfl,_,_,rfl,.inl ⟨_,SqL.of hb.1,rfl⟩,_,_,rfl,rfl,.inl ⟨by decide,by decide⟩,_,_,rfl,rfl,q⟩
 ·have c2:¬e/2<=(B.ins:Int)+((cs.map V.ref).length:Nat):=fun h=>c2 (decide_eq_true h)
  rw [hcl] at c2
  have he:F2 A B e=e+2*(((A.boxes.length:Nat):Int)+(A.gates.length:Nat)):=by
   unfold F2 leF
   rw [if_pos (by lia)]
   lia
  rw [he,<-hbl,<-hgl] at q
  exact ⟨_,rfl,_,rfl,w,_,_,_,rfl,rfl,SqT.of hA.w,rfl,_,_,rfl,.inl ⟨_,SqL.of hb.1,rfl⟩,_,rfl,w,_,_,_,rfl,rfl,SqT.of hA.w,rfl,_,_,rfl,.inl ⟨_,SqL.of hg.1,rfl⟩,_,_,rfl,rfl,_,_,rfl,rfl,.inl ⟨by decide,by decide⟩,_,_,rfl,rfl,q⟩
theorem k_b(T:Tx w K mg A)(G_first_end:FnOk P w K mg base CX0 1 A.a_first_end A.d_first_end ["one", "other", "end"] v_g)(G_second_end:FnOk P w K mg base CX0 1 A.a_second_end A.d_second_end ["one", "other", "end"] w_x):FnOk P w K mg base CX0 2 A.a_beside A.d_beside ["one", "other"] p_d:=by
 refine T.F_beside.ok sc_beside (fun vs H Q E h=>?_) (fun cdv A' outer s H vs Q E hr h=>?_)
 ·obtain ⟨w,b,g,o,w',b',g',o',A,B,rfl,hA,hB,okA,okB,hi,q⟩:=h
  rfl
 obtain ⟨w,b,g,o,w',b',g',o',A,B,rfl,hA,hB,okA,okB,hi,q⟩:=h
 refine ⟨_,(z_e (t_c ["first", "end"] [0,1] sc_beside.nd (i:=2) rfl (Or.inl rfl) (fun _ _ h=>h) rfl (y_p (z_o z_i (pv 0) z_c (fun _ _=>rfl))) (fun _ _ _ _=>(x_a rfl (z_p (z_q (i:=0) (show (["first", "end", "one", "other"]:List Str).Nodup by decide +kernel) rfl (Or.inl rfl)) (z_p (z_q (i:=1) (show (["first", "end", "one", "other"]:List Str).Nodup by decide +kernel) rfl (Or.inl rfl)) y_v)))) x_s (fun _ _ _ _=>y_q) (fun _ _ _ _=>(y_c (z_a (pv 0) (z_a (z_j G_first_end (hr.mono (by first | decide | lia)) rfl T.M_first_end T.F_first_end.kp T.B_first_end .nil pass0 (z_a (pv 2) (z_a (pv 3) (z_a (pv 1) z_b)))) z_b)))) rfl (show ∀ j∈([0,1]:List Nat),j<5 by decide) (by with_unfolding_all rfl))
  (z_e (y_o (q_q PySem.F.plainAttrs_list PySem.F.slot_list_extend PySem.F.type_list_extend u_a (pv 2) (z_a (u_b ["first", "end"] [0,1] (fun _ _ h=>h) rfl (y_p (z_o z_i (pv 1) z_c (fun _ _=>rfl))) (fun _ _ _ _=>(x_a rfl (z_p (z_q (i:=0) (show (["first", "end", "one", "other"]:List Str).Nodup by decide +kernel) rfl (Or.inl rfl)) (z_p (z_q (i:=1) (show (["first", "end", "one", "other"]:List Str).Nodup by decide +kernel) rfl (Or.inl rfl)) y_v)))) x_s (fun _ _ _ _=>y_q) (fun _ _ _ _=>(y_c (z_a (pv 0) (z_a (z_j G_second_end (hr.mono (by first | decide | lia)) rfl T.M_second_end T.F_second_end.kp T.B_second_end .nil pass0 (z_a (pv 2) (z_a (pv 3) (z_a (pv 1) z_b)))) z_b)))) rfl (show ∀ j∈([0,1]:List Nat),j<5 by decide)) z_b)))
  (z_e (t_c ["a", "b"] [0,1] sc_beside.nd (i:=3) rfl (Or.inl rfl) (fun _ _ h=>h) rfl (y_p (z_o z_i (pv 0) z_c (fun _ _=>rfl))) (fun _ _ _ _=>(x_a rfl (z_p (z_q (i:=0) (show (["a", "b", "one", "other"]:List Str).Nodup by decide +kernel) rfl (Or.inl rfl)) (z_p (z_q (i:=1) (show (["a", "b", "one", "other"]:List Str).Nodup by decide +kernel) rfl (Or.inl rfl)) y_v)))) x_s (fun _ _ _ _=>y_q) (fun _ _ _ _=>(y_c (z_a (z_j G_first_end (hr.mono (by first | decide | lia)) rfl T.M_first_end T.F_first_end.kp T.B_first_end .nil pass0 (z_a (pv 2) (z_a (pv 3) (z_a (pv 0) z_b)))) (z_a (z_j G_first_end (hr.mono (by first | decide | lia)) rfl T.M_first_end T.F_first_end.kp T.B_first_end .nil pass0 (z_a (pv 2) (z_a (pv 3) (z_a (pv 1) z_b)))) z_b)))) rfl (show ∀ j∈([0,1]:List Nat),j<5 by decide) (by with_unfolding_all rfl))
  (z_e (y_o (q_q PySem.F.plainAttrs_list PySem.F.slot_list_extend PySem.F.type_list_extend u_a (pv 3) (z_a (u_b ["a", "b"] [0,1] (fun _ _ h=>h) rfl (y_p (z_o z_i (pv 1) z_c (fun _ _=>rfl))) (fun _ _ _ _=>(x_a rfl (z_p (z_q (i:=0) (show (["a", "b", "one", "other"]:List Str).Nodup by decide +kernel) rfl (Or.inl rfl)) (z_p (z_q (i:=1) (show (["a", "b", "one", "other"]:List Str).Nodup by decide +kernel) rfl (Or.inl rfl)) y_v)))) x_s (fun _ _ _ _=>y_q) (fun _ _ _ _=>(y_c (z_a (z_j G_second_end (hr.mono (by first | decide | lia)) rfl T.M_second_end T.F_second_end.kp T.B_second_end .nil pass0 (z_a (pv 2) (z_a (pv 3) (z_a (pv 0) z_b)))) (z_a (z_j G_second_end (hr.mono (by first | decide | lia)) rfl T.M_second_end T.F_second_end.kp T.B_second_end .nil pass0 (z_a (pv 2) (z_a (pv 3) (z_a (pv 1) z_b)))) z_b)))) rfl (show ∀ j∈([0,1]:List Nat),j<5 by decide)) z_b)))
  (z_e (p_z [0,1] sc_beside.nd (i:=4) rfl (Or.inl rfl) (fun _ _ h=>h) rfl (y_p (z_o z_i (pv 0) z_c (fun _ _=>rfl))) (fun _ _ _ _=>y_q) (fun _ _ _ _=>(z_j G_first_end (hr.mono (by first | decide | lia)) rfl T.M_first_end T.F_first_end.kp T.B_first_end .nil pass0 (z_a (pv 1) (z_a (pv 2) (z_a (pv 0) z_b))))) rfl (show ∀ j∈([0,1]:List Nat),j<5 by decide) (show (["end", "one", "other"]:List Str).Nodup by decide +kernel) (by with_unfolding_all rfl))
  (z_e (y_o (q_q PySem.F.plainAttrs_list PySem.F.slot_list_extend PySem.F.type_list_extend u_a (pv 4) (z_a (s_b [0,1] (fun _ _ h=>h) rfl (y_p (z_o z_i (pv 1) z_c (fun _ _=>rfl))) (fun _ _ _ _=>y_q) (fun _ _ _ _=>(z_j G_second_end (hr.mono (by first | decide | lia)) rfl T.M_second_end T.F_second_end.kp T.B_second_end .nil pass0 (z_a (pv 1) (z_a (pv 2) (z_a (pv 0) z_b))))) rfl (show ∀ j∈([0,1]:List Nat),j<5 by decide) (show (["end", "one", "other"]:List Str).Nodup by decide +kernel)) z_b)))
  (z_g (z_r (y_c (z_a (z_o z_i (pv 0) z_c (fun _ _=>rfl)) (z_a (pv 2) (z_a (pv 3) (z_a (pv 4) z_b))))))))))))),?_⟩
 obtain ⟨ba,hba⟩:=hA.b
 obtain ⟨ga,hga⟩:=hA.g
 obtain ⟨bb,hbb⟩:=hB.b
 obtain ⟨gb,hgb⟩:=hB.g
 have l1:=okA.boxes
 have l2:=okB.boxes
 have l3:=okA.gates
 have l4:=okB.gates
 have l5:=okA.outs
 have l6:=okB.outs
 refine ⟨_,rfl,w,_,_,_,rfl,rfl,SqT.of hA.w,rfl,b,rfl,⟨_,SqL.of hba.1⟩,y_f (fun p=>(p.1,F1 A B p.2)) hba (by lia) (fun p hp H1 s1 N hN=>⟨_,rfl,_,rfl,_,rfl,_,rfl,w,b,g,o,w',b',g',o',A,B,_,rfl,hA.same s1,hB.same s1,zl2,hN⟩) fun x1 H1 s1 h1 p1 hp1=>?_⟩
 have P1:=PrsR.mk h1 hp1
 have u1:=z_f hp1 (.lst (x1.map V.ref))
 have t1:=s1.trans u1
 have hbb1:=hbb.same t1
 refine ⟨_,rfl,.inl ⟨rfl,_,SqL.of z_d⟩,_,rfl,w',_,_,_,rfl,rfl,SqT.of (t1 _ _ hB.w),rfl,b',rfl,⟨_,SqL.of hbb1.1⟩,y_f (fun p=>(p.1,F2 A B p.2)) hbb1 (by lia) (fun p hp H2 s2 N hN=>⟨_,rfl,_,rfl,_,rfl,_,rfl,w,b,g,o,w',b',g',o',A,B,_,rfl,hA.same (t1.trans s2),hB.same (t1.trans s2),hi,zl2,hN⟩) fun x2 H2 s2 h2 p2 hp2=>?_⟩
 have P2:=PrsR.mk h2 hp2
 have P1':=(P1.same s2).same (z_f hp2 (.lst (x2.map V.ref)))
 have hl1:(x1.map V.ref).length=A.boxes.length:=by rw [List.length_map,P1.length,List.length_map]
 have hl2:(x2.map V.ref).length=B.boxes.length:=by rw [List.length_map,P2.length,List.length_map]
 refine ⟨p1,p2,_,_,rfl,rfl,P1'.1,P2.1,(by rw [hl1,hl2];exact small (by lia)),?_⟩
 have PB:=P1'.ext P2
 have n1:=s1.free hp1
 have t2:=v_f (t1.trans (s2.trans (z_f hp2 (.lst (x2.map V.ref))))) n1 (.lst (x1.map V.ref++x2.map V.ref))
 have hga2:=hga.same t2
 refine ⟨_,rfl,w,_,_,_,rfl,rfl,SqT.of (t2 _ _ hA.w),rfl,g,rfl,⟨_,SqL.of hga2.1⟩,y_f (fun p=>(F1 A B p.1,F1 A B p.2)) hga2 (by lia) (fun p hp H3 s3 N hN=>⟨_,rfl,_,rfl,_,rfl,w,b,g,o,w',b',g',o',A,B,_,rfl,hA.same (t2.trans s3),hB.same (t2.trans s3),_,rfl,_,rfl,_,rfl,w,b,g,o,w',b',g',o',A,B,_,rfl,hA.same (t2.trans s3),hB.same (t2.trans s3),zl2,hN⟩) fun x3 H3 s3 h3 p3 hp3=>?_⟩
 have P3:=PrsR.mk h3 hp3
 have u3:=z_f hp3 (.lst (x3.map V.ref))
 have PB:=(PB.same s3).same u3
 have t3:=t2.trans (s3.trans u3)
 have hgb3:=hgb.same t3
 refine ⟨_,rfl,.inl ⟨rfl,_,SqL.of z_d⟩,_,rfl,w',_,_,_,rfl,rfl,SqT.of (t3 _ _ hB.w),rfl,g',rfl,⟨_,SqL.of hgb3.1⟩,y_f (fun p=>(F2 A B p.1,F2 A B p.2)) hgb3 (by lia) (fun p hp H4 s4 N hN=>⟨_,rfl,_,rfl,_,rfl,w,b,g,o,w',b',g',o',A,B,_,rfl,hA.same (t3.trans s4),hB.same (t3.trans s4),hi,_,rfl,_,rfl,_,rfl,w,b,g,o,w',b',g',o',A,B,_,rfl,hA.same (t3.trans s4),hB.same (t3.trans s4),hi,zl2,hN⟩) fun x4 H4 s4 h4 p4 hp4=>?_⟩
 have P4:=PrsR.mk h4 hp4
 have u4:=z_f hp4 (.lst (x4.map V.ref))
 have P3':=(P3.same s4).same u4
 have PB:=(PB.same s4).same u4
 have hl3:(x3.map V.ref).length=A.gates.length:=by rw [List.length_map,P3.length,List.length_map]
 have hl4:(x4.map V.ref).length=B.gates.length:=by rw [List.length_map,P4.length,List.length_map]
 have n13:p1≠p3:=fun e=>by
  have:=s3 _ _ (z_d (a:=p1) (o:=.lst (x1.map V.ref++x2.map V.ref)))
  rw [e,hp3] at this
  cases this
 refine ⟨p3,p4,_,_,rfl,rfl,P3'.1,P4.1,(by rw [hl3,hl4];exact small (by lia)),?_⟩
 have PG:=P3'.ext P4
 have PB:=PB.other (ys:=x3.map V.ref++x4.map V.ref) P3'.1 n13
 have n3:=(t2.trans s3).free hp3
 have t4:=v_f (t3.trans (s4.trans u4)) n3 (.lst (x3.map V.ref++x4.map V.ref))
 have oA:=t4 _ _ hA.o
 refine ⟨_,rfl,w,_,_,_,rfl,rfl,SqT.of (t4 _ _ hA.w),rfl,o,rfl,⟨_,SqL.of oA⟩,v_w (onI fun e=>F1 A B e) (SqL.of oA) (by rw [List.length_map];lia) (fun x hx N hN=>?_) fun p5 hp5=>?_⟩
 ·obtain ⟨e,he,rfl⟩:=List.mem_map.mp hx
  exact ⟨_,rfl,_,rfl,_,rfl,w,b,g,o,w',b',g',o',A,B,_,rfl,hA.same t4,hB.same t4,hN⟩
 rw [show (A.outs.map V.int).map (onI fun e=>F1 A B e)=(A.outs.map (F1 A B)).map V.int by rw [List.map_map,List.map_map];rfl]
 have u5:=z_f hp5 (.lst ((A.outs.map (F1 A B)).map V.int))
 have t5:=t4.trans u5
 have oB:=t5 _ _ hB.o
 refine ⟨_,rfl,.inl ⟨rfl,_,SqL.of z_d⟩,_,rfl,w',_,_,_,rfl,rfl,SqT.of (t5 _ _ hB.w),rfl,o',rfl,⟨_,SqL.of oB⟩,v_w (onI fun e=>F2 A B e) (SqL.of oB) (by rw [List.length_map];lia) (fun x hx N hN=>?_) fun p6 hp6=>?_⟩
 ·obtain ⟨e,he,rfl⟩:=List.mem_map.mp hx
  exact ⟨_,rfl,_,rfl,_,rfl,w,b,g,o,w',b',g',o',A,B,_,rfl,hA.same t5,hB.same t5,hi,hN⟩
 rw [show (B.outs.map V.int).map (onI fun e=>F2 A B e)=(B.outs.map (F2 A B)).map V.int by rw [List.map_map,List.map_map];rfl]
 have u6:=z_f hp6 (.lst ((B.outs.map (F2 A B)).map V.int))
 have h56:=u6 _ _ (z_d (a:=p5) (o:=.lst ((A.outs.map (F1 A B)).map V.int)))
 refine ⟨p5,p6,_,_,rfl,rfl,h56,z_d,(by rw [List.length_map,List.length_map,List.length_map,List.length_map];exact small (by lia)),?_⟩
 have n5:=t4.free hp5
 have n15:p1≠p5:=fun e=>by rw [<-e,PB.1] at hp5;cases hp5
 have n35:p3≠p5:=fun e=>by rw [<-e,PG.1] at hp5;cases hp5
 have PB:=((PB.same u5).same u6).other (ys:=(A.outs.map (F1 A B)).map V.int++(B.outs.map (F2 A B)).map V.int) h56 n15
 have PG:=((PG.same u5).same u6).other (ys:=(A.outs.map (F1 A B)).map V.int++(B.outs.map (F2 A B)).map V.int) h56 n35
 have t6:=v_f (t5.trans u6) n5 (.lst ((A.outs.map (F1 A B)).map V.int++(B.outs.map (F2 A B)).map V.int))
 refine ⟨_,rfl,w,_,_,_,rfl,rfl,SqT.of (t6 _ _ hA.w),rfl,_,rfl,_,rfl,_,rfl,zl4,fun p hp=>?_⟩
 have u7:=z_f hp (.tup [.int A.ins,.ref p1,.ref p3,.ref p5])
 refine q p p1 p3 p5 _ (t6.free hp) n1 n3 n5 n13 n15 n35 (t6.trans u7) ⟨z_d,⟨x1++x2,?_⟩,⟨x3++x4,?_⟩,?_⟩
 ·have:=PB.same u7
  rw [show (bes A B).boxes=A.boxes.map (fun p=>(p.1,F1 A B p.2))++B.boxes.map (fun p=>(p.1,F2 A B p.2)) by simp [bes,bx,two]]
  exact this
 ·have:=PG.same u7
  rw [show (bes A B).gates=A.gates.map (fun p=>(F1 A B p.1,F1 A B p.2))++B.gates.map (fun p=>(F2 A B p.1,F2 A B p.2)) by simp [bes,gt,two]]
  exact this
 ·have:=u7 _ _ (z_d (a:=p5) (o:=.lst ((A.outs.map (F1 A B)).map V.int++(B.outs.map (F2 A B)).map V.int)))
  rw [this,show (bes A B).outs=A.outs.map (F1 A B)++B.outs.map (F2 A B) by simp [bes,ot,two],List.map_append]
theorem r_a(T:Tx w K mg A)(G_Classes_init:FnOk P w K mg base CX0 1 A.a_Classes_init A.d_Classes_init ["self", "knots"] (p_a A.c_Classes)):FnOk P w K mg base CX0 3 A.a_classes_of A.d_classes_of ["net"] (x_t A.c_Classes):=by
 refine T.F_classes_of.ok r_l (fun vs H Q E h=>?_) (fun cdv A' outer s H vs Q E hr h=>?_)
 ·obtain ⟨net,g,rs,L,n,gs,rfl,hN,hn,h1000,q⟩:=h
  rfl
 obtain ⟨net,g,rs,L,n,gs,rfl,hN,hn,h1000,q⟩:=h
 refine ⟨_,(z_g (z_r (pe_make T.mk_Classes G_Classes_init (hr.mono (by first | decide | lia)) rfl T.M_Classes T.B_Classes_init .nil pass0 (z_a (z_l z_w (z_l z_w z_c (z_o z_i (pv 0) z_c (fun _ _=>rfl))) (z_n z_s rfl T.len PySem.boot_len (z_a (z_o z_i (pv 0) z_c (fun _ _=>rfl)) z_b))) z_b)))),?_⟩
 have hl:=hN.g.lenS
 have en:1+(L:Int)+(((rs.map V.ref).length:Nat):Int)=(n:Int):=by rw [List.length_map];lia
 refine ⟨_,rfl,net,_,_,_,rfl,rfl,SqT.of hN.p,rfl,_,_,rfl,rfl,_,rfl,net,_,_,_,rfl,rfl,SqT.of hN.p,rfl,_,_,rfl,.inl ⟨_,SqL.of hN.g.1,rfl⟩,_,_,rfl,rfl,fun o dx ho hdx _=>⟨o,dx,n,?_,z_d,by lia,fun l H6 hl0 ch0 hC0=>⟨rfl,q o l H6 (l_u hl0) (l_v ho hdx ch0) hC0⟩⟩⟩
 dsimp only
 rw [en]
 rfl
theorem r_f(T:Tx w K mg A)(G_is_good:FnOk P w K mg base CX0 1 A.a_is_good A.d_is_good ["net", "classes", "step"] nv_any)(G_Classes_join:FnOk P w K mg base CX0 2 A.a_Classes_join A.d_Classes_join ["self", "one", "other"] (u_l A.c_Classes)):FnOk P w K mg base CX0 3 A.a_take_steps A.d_take_steps ["net", "classes", "steps", "where"] t_f:=by
 refine T.F_take_steps.ok sc_take_steps (fun vs H Q E h=>?_) (fun cdv A' outer s H vs Q E hr h=>?_)
 ·obtain ⟨net,o,p,wh,rfl,hp,q⟩:=h
  rfl
 obtain ⟨net,o,p,wh,rfl,hp,q⟩:=h
 refine ⟨_,(z_g (v_a PassesOwn.never rfl (p_y (r_g rfl T.enumerate (z_a (pv 2) z_b)) (r_h rfl T.enumerate (z_a (pv 2) z_b))) (x_a rfl (z_p (z_q (i:=4) sc_take_steps.nd rfl (Or.inl rfl)) (z_p (z_q (i:=5) sc_take_steps.nd rfl (Or.inl rfl)) y_v)))
    (z_g (x_d (PW.pt (m_h (v_p (y_n (z_j G_is_good (hr.mono (by first | decide | lia)) rfl T.M_is_good T.F_is_good.kp T.B_is_good .nil pass0 (z_a (pv 0) (z_a (pv 1) (z_a (pv 5) z_b)))) (fun _=>rfl))) (q_r (v_p (y_n (x_p (pv 1) T.cl_Classes T.me_Classes_join G_Classes_join (hr.mono (by first | decide | lia)) T.B_Classes_join .nil pass0 (z_a (z_o z_i (pv 5) z_c (fun _ _=>rfl)) (z_a (z_o z_i (pv 5) z_c (fun _ _=>rfl)) z_b))) (fun _=>rfl)))))) (z_g t_d) z_x)))),?_⟩
 obtain ⟨kb,ars,h1,h2⟩:=hp.ex
 cases h2
 refine t_m (fun N hN=>⟨_,rfl,hN⟩) h1 (fun i σ J=>H=J) rfl (fun i σ J e=>by subst e;exact h1) (fun i x p σ J hx=>by simp at hx) fun σ J e=>by subst e;exact q
theorem s_n(T:Tx w K mg A)(G_classes_of:FnOk P w K mg base CX0 3 A.a_classes_of A.d_classes_of ["net"] (x_t A.c_Classes))(G_take_steps:FnOk P w K mg base CX0 3 A.a_take_steps A.d_take_steps ["net", "classes", "steps", "where"] t_f)(G_start_net:FnOk P w K mg base CX0 2 A.a_start_net A.d_start_net ["work"] u_s)(G_Classes_alike:FnOk P w K mg base CX0 2 A.a_Classes_alike A.d_Classes_alike ["self", "one", "other"] (v_m A.c_Classes))(G_start_end:FnOk P w K mg base CX0 1 A.a_start_end A.d_start_end ["work", "end"] v_h):FnOk P w K mg base CX0 4 A.a_look_starts A.d_look_starts ["work", "kept", "steps"] s_t:=by
 refine T.F_look_starts.ok sc_look_starts (fun vs H Q E h=>?_) (fun cdv A' outer s H vs Q E hr h=>?_)
 ·obtain ⟨w,b,g,o,kp,sp,W,kept,rfl,hW,ok,h400,hK,hSt,hOk,q⟩:=h
  rfl
 obtain ⟨w,b,g,o,kp,sp,W,kept,rfl,hW,ok,h400,hK,hSt,hOk,q⟩:=h
 refine ⟨_,(z_e (z_z (i:=3) sc_look_starts.nd rfl (Or.inl rfl) (z_j G_classes_of (hr.mono (by first | decide | lia)) rfl T.M_classes_of T.F_classes_of.kp T.B_classes_of .nil pass0 (z_a (z_j G_start_net (hr.mono (by first | decide | lia)) rfl T.M_start_net T.F_start_net.kp T.B_start_net .nil pass0 (z_a (pv 0) z_b)) z_b)))
  (z_e (y_o (z_j G_take_steps (hr.mono (by first | decide | lia)) rfl T.M_take_steps T.F_take_steps.kp T.B_take_steps .nil pass0 (z_a (z_j G_start_net (hr.mono (by first | decide | lia)) rfl T.M_start_net T.F_start_net.kp T.B_start_net .nil pass0 (z_a (pv 0) z_b)) (z_a (pv 3) (z_a (pv 2) (z_a y_t z_b))))))
  (z_g (v_a PassesOwn.never rfl (p_y (y_p (pv 1)) (s_c (pv 1))) (x_a rfl (z_p (z_q (i:=4) sc_look_starts.nd rfl (Or.inl rfl)) (z_p (z_q (i:=5) sc_look_starts.nd rfl (Or.inl rfl)) y_v)))
    (z_g (x_d (v_p (y_n (x_p (pv 3) T.cl_Classes T.me_Classes_alike G_Classes_alike (hr.mono (by first | decide | lia)) T.B_Classes_alike .nil pass0 (z_a (z_j G_start_end (hr.mono (by first | decide | lia)) rfl T.M_start_end T.F_start_end.kp T.B_start_end .nil pass0 (z_a (pv 0) (z_a (pv 4) z_b))) (z_a (z_j G_start_end (hr.mono (by first | decide | lia)) rfl T.M_start_end T.F_start_end.kp T.B_start_end .nil pass0 (z_a (pv 0) (z_a (pv 5) z_b))) z_b))) (fun _=>rfl))) (z_g t_d) z_x)))))),?_⟩
 have eG:=gI_nG (startOk ok)
 have hG:=nG_gt (startOk ok)
 have gl:(nG (startGates W)).length=W.gates.length:=by rw [o_w];unfold startGates;rw [List.length_map]
 have hk:=W.knots_is
 obtain ⟨n,hn⟩:∃ n,n=1+W.ins+(nG (startGates W)).length:=⟨_,rfl⟩
 refine ⟨_,rfl,w,b,g,o,W,rfl,hW,ok,fun p1 g1 rs1 H1 hp1 hg1 _ s1 hN1=>⟨p1,g1,rs1,W.ins,n,nG (startGates W),rfl,by rw [eG];exact hN1,hn,by lia,fun oo l H2 hl s2 hC=>?_⟩⟩
 have s02:=s1.trans s2
 have fl:=s1.free hl
 have hW2:=hW.same s02
 refine ⟨_,rfl,w,b,g,o,W,rfl,hW2,ok,fun p2 g2 rs2 H3 hp2 hg2 _ s3 hN3=>?_⟩
 have s03:=s02.trans s3
 obtain ⟨⟨LL,hLL⟩,_⟩:=hC.lst
 have ng2:g2≠l:=(z_h hLL hg2).symm
 have nsp:sp≠l:=by
  obtain ⟨kb,ars,h,_⟩:=hSt.ex
  exact z_h h fl
 refine ⟨_,rfl,_,rfl,p2,oo,sp,_,rfl,hSt.same s03,?_⟩
 obtain ⟨kb,ars,hp,hpr⟩:=hK.ex
 refine u_z (fun N hN=>⟨_,rfl,hN⟩) (s03 _ _ hp) (fun i σ J=>∃ (x4 x5:Option V),σ=[some (.ref w),some (.ref kp),some (.ref sp),some (.ref oo),x4,x5]/\Same H J/\ClsAt A.c_Classes J oo l n id) ⟨_,_,rfl,s03,(hC.same s3)⟩ ?_ ?_ ?_
 ·rintro i σ J ⟨_,_,_,sJ,_⟩
  exact sJ _ _ hp
 ·rintro i v σ J hv ⟨x4,x5,rfl,sJ,CJ⟩
  rw [List.getElem?_map] at hv
  obtain ⟨rr,hrr,rfl⟩:=Option.map_eq_some_iff.mp hv
  obtain ⟨pr,hpk,e1⟩:=x_g (R:=fun r (q:Nat×Nat)=>H r=some (.tup [.int (q.1:Int),.int (q.2:Int)])) hpr hrr
  obtain ⟨a1,a2,a3⟩:=hOk _ (List.mem_of_getElem? hpk)
  obtain ⟨x,hx⟩:∃ x:Nat,seF W (pr.1:Int)=(x:Int):=⟨(seF W (pr.1:Int)).toNat,by lia⟩
  obtain ⟨dx2,ho2⟩:=CJ.1
  have hWJ:=hW.same sJ
  refine ⟨rr,_,rfl,SqT.of (sJ _ _ e1),rfl,_,_,rfl,_,_,rfl,rfl,?_⟩
  refine ⟨_,rfl,oo,dx2,_,rfl,ho2,t_r (by decide),_,rfl,_,rfl,w,b,g,o,W,_,rfl,hWJ,ok,by lia,_,rfl,_,rfl,w,b,g,o,W,_,rfl,hWJ,ok,by lia,oo,l,n,id,x,x,by rw [<-a1,hx];rfl,CJ,by lia,by lia,fun J2 ch2 C2=>⟨_,rfl,x_f (by rw [decide_eq_true rfl];rfl) ?_⟩⟩
  exact ⟨_,_,rfl,Ch.same fl sJ ch2,C2⟩
 ·rintro σ J ⟨_,_,_,sJ,_⟩
  exact q J sJ
theorem r_c(T:Tx w K mg A)(G_classes_of:FnOk P w K mg base CX0 3 A.a_classes_of A.d_classes_of ["net"] (x_t A.c_Classes))(G_take_steps:FnOk P w K mg base CX0 3 A.a_take_steps A.d_take_steps ["net", "classes", "steps", "where"] t_f)(G_next_net:FnOk P w K mg base CX0 3 A.a_next_net A.d_next_net ["work"] s_k)(G_Classes_join:FnOk P w K mg base CX0 2 A.a_Classes_join A.d_Classes_join ["self", "one", "other"] (u_l A.c_Classes))(G_Classes_alike:FnOk P w K mg base CX0 2 A.a_Classes_alike A.d_Classes_alike ["self", "one", "other"] (v_m A.c_Classes))(G_now_end:FnOk P w K mg base CX0 1 A.a_now_end A.d_now_end ["work", "end"] v_n)(G_then_end:FnOk P w K mg base CX0 2 A.a_then_end A.d_then_end ["work", "end"] v_u):FnOk P w K mg base CX0 4 A.a_look_nexts A.d_look_nexts ["work", "kept", "steps"] p_f:=by
 refine T.F_look_nexts.ok sc_look_nexts (fun vs H Q E h=>?_) (fun cdv A' outer s H vs Q E hr h=>?_)
 ·obtain ⟨w,b,g,o,kp,sp,W,kept,rfl,hW,ok,h400,hK,hSt,hOk,q⟩:=h
  rfl
 obtain ⟨w,b,g,o,kp,sp,W,kept,rfl,hW,ok,h400,hK,hSt,hOk,q⟩:=h
 refine ⟨_,(z_e (z_z (i:=3) sc_look_nexts.nd rfl (Or.inl rfl) (z_j G_classes_of (hr.mono (by first | decide | lia)) rfl T.M_classes_of T.F_classes_of.kp T.B_classes_of .nil pass0 (z_a (z_j G_next_net (hr.mono (by first | decide | lia)) rfl T.M_next_net T.F_next_net.kp T.B_next_net .nil pass0 (z_a (pv 0) z_b)) z_b)))
  (z_e (v_a PassesOwn.never rfl (p_y (r_g rfl T.enumerate (z_a (pv 1) z_b)) (r_h rfl T.enumerate (z_a (pv 1) z_b))) (x_a rfl (z_p (z_q (i:=4) sc_look_nexts.nd rfl (Or.inl rfl)) (z_p (z_q (i:=5) sc_look_nexts.nd rfl (Or.inl rfl)) y_v)))
    (z_g (x_d (v_p (y_n (x_p (pv 3) T.cl_Classes T.me_Classes_join G_Classes_join (hr.mono (by first | decide | lia)) T.B_Classes_join .nil pass0 (z_a (z_j G_now_end (hr.mono (by first | decide | lia)) rfl T.M_now_end T.F_now_end.kp T.B_now_end .nil pass0 (z_a (pv 0) (z_a (z_o z_i (pv 5) z_c (fun _ _=>rfl)) z_b))) (z_a (z_j G_now_end (hr.mono (by first | decide | lia)) rfl T.M_now_end T.F_now_end.kp T.B_now_end .nil pass0 (z_a (pv 0) (z_a (z_o z_i (pv 5) z_c (fun _ _=>rfl)) z_b))) z_b))) (fun _=>rfl))) (z_g t_d) z_x)))
  (z_e (y_o (z_j G_take_steps (hr.mono (by first | decide | lia)) rfl T.M_take_steps T.F_take_steps.kp T.B_take_steps .nil pass0 (z_a (z_j G_next_net (hr.mono (by first | decide | lia)) rfl T.M_next_net T.F_next_net.kp T.B_next_net .nil pass0 (z_a (pv 0) z_b)) (z_a (pv 3) (z_a (pv 2) (z_a y_t z_b))))))
  (z_g (v_a PassesOwn.never rfl (p_y (y_p (pv 1)) (s_c (pv 1))) (x_a rfl (z_p (z_q (i:=6) sc_look_nexts.nd rfl (Or.inl rfl)) (z_p (z_q (i:=7) sc_look_nexts.nd rfl (Or.inl rfl)) y_v)))
    (z_g (x_d (v_p (y_n (x_p (pv 3) T.cl_Classes T.me_Classes_alike G_Classes_alike (hr.mono (by first | decide | lia)) T.B_Classes_alike .nil pass0 (z_a (z_j G_then_end (hr.mono (by first | decide | lia)) rfl T.M_then_end T.F_then_end.kp T.B_then_end .nil pass0 (z_a (pv 0) (z_a (pv 6) z_b))) (z_a (z_j G_then_end (hr.mono (by first | decide | lia)) rfl T.M_then_end T.F_then_end.kp T.B_then_end .nil pass0 (z_a (pv 0) (z_a (pv 7) z_b))) z_b))) (fun _=>rfl))) (z_g t_d) z_x))))))),?_⟩
 have eG:=gI_nG (nextOk ok)
 have hG:=nG_gt (nextOk ok)
 have gl:(nG (y_b W++y_a W)).length=2*W.gates.length:=by rw [o_w,List.length_append];unfold y_b y_a;rw [List.length_map,List.length_map];lia
 have hk:=W.knots_is
 have okb:=ok.boxes
 have oki:=ok.ins
 obtain ⟨n,hn⟩:∃ n,n=1+(2*W.ins+W.boxes.length)+(nG (y_b W++y_a W)).length:=⟨_,rfl⟩
 have hn2:1+(2*W.ins+W.boxes.length)+2*W.gates.length=n:=by lia
 obtain ⟨R1,R2,hKR,hRS,hal⟩:=hOk
 rw [hn2] at hKR hRS
 refine ⟨_,rfl,w,b,g,o,W,rfl,hW,ok,fun p1 g1 rs1 H1 hp1 hg1 _ s1 hN1=>⟨p1,g1,rs1,2*W.ins+W.boxes.length,n,nG (y_b W++y_a W),rfl,by rw [eG];exact hN1,hn,by lia,fun oo l H2 hl s2 hC=>?_⟩⟩
 have s02:=s1.trans s2
 have fl:=s1.free hl
 obtain ⟨kb,ars,hp,hpr⟩:=hK.ex
 have hlen:ars.length=kept.length:=hpr.length
 dsimp only [gName]
 refine w_c (fun σ J=>∃ (x4 x5:Option V),σ=[some (.ref w),some (.ref kp),some (.ref sp),some (.ref oo),x4,x5,none,none]/\Same H J/\ClsAt A.c_Classes J oo l n R1) (fun D hD=>?_) ?_
 ·refine t_m (fun N hN=>⟨_,rfl,hN⟩) (s02 _ _ hp) (fun i σ J=>∃ (x4 x5:Option V) (Ri:Nat->Nat),σ=[some (.ref w),some (.ref kp),some (.ref sp),some (.ref oo),x4,x5,none,none]/\Same H J/\ClsAt A.c_Classes J oo l n Ri/\KRun n Ri ((kept.map fun q:Nat×Nat=>(eM (kn W) q.1,eM (kn W) q.2)).drop i) R1) ⟨_,_,id,rfl,s02,hC,hKR⟩ ?_ ?_ ?_
  ·rintro i σ J ⟨_,_,_,_,sJ,_⟩
   exact sJ _ _ hp
  ·rintro i v pe σ J hv ⟨x4,x5,Ri,rfl,sJ,CJ,hRi⟩ hpe
   rw [List.getElem?_map] at hv
   obtain ⟨rr,hrr,rfl⟩:=Option.map_eq_some_iff.mp hv
   obtain ⟨pr,hpk,e1⟩:=x_g (R:=fun r (q:Nat×Nat)=>H r=some (.tup [.int (q.1:Int),.int (q.2:Int)])) hpr hrr
   have hil:=(List.getElem?_eq_some_iff.mp hpk).1
   rw [<-List.map_drop,List.drop_eq_getElem_cons hil,(List.getElem?_eq_some_iff.mp hpk).2,List.map_cons] at hRi
   cases hRi with
   | cons ha hb h1 h2 hrest =>
   have t1:=z_f hpe (.tup [.int (i:Int),.ref rr])
   have s1:=sJ.trans t1
   have C1:=CJ.same t1
   refine ⟨pe,_,rfl,SqT.of z_d,rfl,_,_,rfl,_,_,rfl,rfl,?_⟩
   dsimp only [gName]
   generalize upd J pe (.tup [.int (i:Int),.ref rr])=J1 at t1 s1 C1 ⊢
   obtain ⟨dx2,ho2⟩:=C1.1
   have hW1:=hW.same s1
   have er:=s1 _ _ e1
   refine ⟨_,rfl,oo,dx2,_,rfl,ho2,t_r (by decide),_,rfl,_,rfl,rr,_,_,_,rfl,rfl,SqT.of er,rfl,w,b,g,o,W,_,rfl,hW1,ok,by lia,_,rfl,_,rfl,rr,_,_,_,rfl,rfl,SqT.of er,rfl,w,b,g,o,W,_,rfl,hW1,ok,by lia,oo,l,n,Ri,eM (kn W) pr.1,eM (kn W) pr.2,by rw [q_i,q_i];rfl,C1,by lia,by lia,.inr (.inr ⟨h1,h2,fun J3 c3 C3=>⟨_,rfl,x_f rfl ?_⟩⟩)⟩
   refine ⟨_,_,_,rfl,Ch.same fl s1 c3,C3,?_⟩
   rw [<-List.map_drop]
   exact hrest
  ·rintro σ J ⟨x4,x5,Ri,rfl,sJ,CJ,hRi⟩
   rw [List.length_map,hlen,<-List.map_drop,List.drop_length] at hRi
   cases hRi
   exact hD _ _ ⟨_,_,rfl,sJ,CJ⟩
 rintro σ J ⟨x4,x5,rfl,sJ,CJ⟩
 refine ⟨_,rfl,w,b,g,o,W,rfl,hW.same sJ,ok,fun p2 g2 rs2 H3 hp2 hg2 _ s3 hN3=>?_⟩
 have s03:=sJ.trans s3
 obtain ⟨⟨LL,hLL⟩,_⟩:=CJ.lst
 have ng2:g2≠l:=(z_h hLL hg2).symm
 have nsp:sp≠l:=by
  obtain ⟨kb,ars,h,_⟩:=hSt.ex
  exact z_h h fl
 refine ⟨_,rfl,_,rfl,p2,oo,sp,_,rfl,hSt.same s03,?_⟩
 cases hRS
 refine u_z (fun N hN=>⟨_,rfl,hN⟩) (s03 _ _ hp) (fun i σ J=>∃ (x6 x7:Option V),σ=[some (.ref w),some (.ref kp),some (.ref sp),some (.ref oo),x4,x5,x6,x7]/\Same H J/\ClsAt A.c_Classes J oo l n R1) ⟨_,_,rfl,s03,(CJ.same s3)⟩ ?_ ?_ ?_
 ·rintro i σ J ⟨_,_,_,sJ,_⟩
  exact sJ _ _ hp
 ·rintro i v σ J hv ⟨x6,x7,rfl,sJ,CJ⟩
  rw [List.getElem?_map] at hv
  obtain ⟨rr,hrr,rfl⟩:=Option.map_eq_some_iff.mp hv
  obtain ⟨pr,hpk,e1⟩:=x_g (R:=fun r (q:Nat×Nat)=>H r=some (.tup [.int (q.1:Int),.int (q.2:Int)])) hpr hrr
  obtain ⟨x,y,ex,ey,lx,ly,exy⟩:=hal _ (List.mem_of_getElem? hpk)
  obtain ⟨dx2,ho2⟩:=CJ.1
  have hWJ:=hW.same sJ
  refine ⟨rr,_,rfl,SqT.of (sJ _ _ e1),rfl,_,_,rfl,_,_,rfl,rfl,?_⟩
  refine ⟨_,rfl,oo,dx2,_,rfl,ho2,t_r (by decide),_,rfl,_,rfl,w,b,g,o,W,_,rfl,hWJ,ok,by lia,_,rfl,_,rfl,w,b,g,o,W,_,rfl,hWJ,ok,by lia,oo,l,n,R1,x,y,by rw [ex,ey];rfl,CJ,by lia,by lia,fun J2 ch2 C2=>⟨_,rfl,x_f (by rw [decide_eq_true exy];rfl) ?_⟩⟩
  exact ⟨_,_,rfl,Ch.same fl sJ ch2,C2⟩
 ·rintro σ J ⟨_,_,_,sJ,_⟩
  exact q J sJ
theorem q_l(T:Tx w K mg A)(G_classes_of:FnOk P w K mg base CX0 3 A.a_classes_of A.d_classes_of ["net"] (x_t A.c_Classes))(G_take_steps:FnOk P w K mg base CX0 3 A.a_take_steps A.d_take_steps ["net", "classes", "steps", "where"] t_f)(G_now_net:FnOk P w K mg base CX0 1 A.a_now_net A.d_now_net ["work"] s_s)(G_Classes_join:FnOk P w K mg base CX0 2 A.a_Classes_join A.d_Classes_join ["self", "one", "other"] (u_l A.c_Classes))(G_NoPaper_init:FnOk P w K mg base CX0 1 A.a_NoPaper_init A.d_NoPaper_init ["self", "where", "at"] (p_x A.c_NoPaper))(G_Classes_alike:FnOk P w K mg base CX0 2 A.a_Classes_alike A.d_Classes_alike ["self", "one", "other"] (v_m A.c_Classes)):FnOk P w K mg base (CXF P w) 4 A.a_look_nows A.d_look_nows ["work", "kept", "goals", "steps"] (n_g A.c_NoPaper):=by
 refine T.F_look_nows.okF sc_look_nows (fun vs H Q E h=>?_) (fun cdv A' outer s H vs Q E hr h=>?_)
 ·obtain ⟨w,b,g,o,kp,gp,sp,W,kept,goals,R,rfl,hW,ok,h400,hK,hGo,hSt,hKR,hal,q1,q2⟩:=h
  rfl
 obtain ⟨w,b,g,o,kp,gp,sp,W,kept,goals,R,rfl,hW,ok,h400,hK,hGo,hSt,hKR,hal,q1,q2⟩:=h
 refine ⟨_,(z_e (PS.nox (z_z (i:=4) sc_look_nows.nd rfl (Or.inl rfl) (z_j G_classes_of (hr.mono (by first | decide | lia)) rfl T.M_classes_of T.F_classes_of.kp T.B_classes_of .nil pass0 (z_a (z_j G_now_net (hr.mono (by first | decide | lia)) rfl T.M_now_net T.F_now_net.kp T.B_now_net .nil pass0 (z_a (pv 0) z_b)) z_b))))
  (z_e (PS.nox (v_a PassesOwn.never rfl (p_y (y_p (pv 1)) (s_c (pv 1))) (x_a rfl (z_p (z_q (i:=5) sc_look_nows.nd rfl (Or.inl rfl)) (z_p (z_q (i:=6) sc_look_nows.nd rfl (Or.inl rfl)) y_v)))
    (z_g (y_o (x_p (pv 4) T.cl_Classes T.me_Classes_join G_Classes_join (hr.mono (by first | decide | lia)) T.B_Classes_join .nil pass0 (z_a (pv 5) (z_a (pv 6) z_b)))))))
  (z_e (PS.nox (y_o (z_j G_take_steps (hr.mono (by first | decide | lia)) rfl T.M_take_steps T.F_take_steps.kp T.B_take_steps .nil pass0 (z_a (z_j G_now_net (hr.mono (by first | decide | lia)) rfl T.M_now_net T.F_now_net.kp T.B_now_net .nil pass0 (z_a (pv 0) z_b)) (z_a (pv 4) (z_a (pv 3) (z_a y_t z_b)))))))
  (z_g (v_a PassesOwn.leaving rfl (p_y (y_p (pv 2)) (s_c (pv 2))) (x_a rfl (z_p (z_q (i:=5) sc_look_nows.nd rfl (Or.inl rfl)) (z_p (z_q (i:=6) sc_look_nows.nd rfl (Or.inl rfl)) y_v)))
    (z_g (x_d (PT.nox (v_p (y_n (x_p (pv 4) T.cl_Classes T.me_Classes_alike G_Classes_alike (hr.mono (by first | decide | lia)) T.B_Classes_alike .nil pass0 (z_a (pv 5) (z_a (pv 6) z_b))) (fun _=>rfl)))) (z_g (s_d rfl rfl raisesO G_NoPaper_init (hr.mono (by first | decide | lia)) T.B_NoPaper_init rfl T.M_NoPaper T.o_NoPaper T.ty_NoPaper (z_a y_t (z_a (z_n z_s rfl T.len PySem.boot_len (z_a (pv 3) z_b)) z_b)))) z_x))))))),?_⟩
 have hgo:GateOk (1+(W.ins+W.boxes.length)) W.gates:=by
  have:=ok.gate
  rw [W.first_is,Nat.add_assoc] at this
  exact this
 have eG:=gI_nG hgo
 have hG:=nG_gt hgo
 have gl:(nG W.gates).length=W.gates.length:=o_w _
 have hk:=W.knots_is
 obtain ⟨n,hn⟩:∃ n,n=1+(W.ins+W.boxes.length)+(nG W.gates).length:=⟨_,rfl⟩
 have hn2:W.knots=n:=by lia
 rw [hn2] at hKR
 refine ⟨_,rfl,w,b,g,o,W,rfl,hW,ok,fun p1 g1 rs1 H1 hp1 hg1 _ s1 hN1=>⟨p1,g1,rs1,W.ins+W.boxes.length,n,nG W.gates,rfl,by rw [eG];exact hN1,hn,by lia,fun oo l H2 hl s2 hC=>?_⟩⟩
 have s02:=s1.trans s2
 have fl:=s1.free hl
 obtain ⟨kb,ars,hp,hpr⟩:=hK.ex
 have hlen:ars.length=kept.length:=hpr.length
 dsimp only [gName]
 refine w_c (fun σ J=>∃ (x5 x6:Option V),σ=[some (.ref w),some (.ref kp),some (.ref gp),some (.ref sp),some (.ref oo),x5,x6]/\Same H J/\ClsAt A.c_Classes J oo l n R) (fun D hD=>?_) ?_
 ·refine u_z (fun N hN=>⟨_,rfl,hN⟩) (s02 _ _ hp) (fun i σ J=>∃ (x5 x6:Option V) (Ri:Nat->Nat),σ=[some (.ref w),some (.ref kp),some (.ref gp),some (.ref sp),some (.ref oo),x5,x6]/\Same H J/\ClsAt A.c_Classes J oo l n Ri/\KRun n Ri (kept.drop i) R) ⟨_,_,id,rfl,s02,hC,hKR⟩ ?_ ?_ ?_
  ·rintro i σ J ⟨_,_,_,_,sJ,_⟩
   exact sJ _ _ hp
  ·rintro i v σ J hv ⟨x5,x6,Ri,rfl,sJ,CJ,hRi⟩
   rw [List.getElem?_map] at hv
   obtain ⟨rr,hrr,rfl⟩:=Option.map_eq_some_iff.mp hv
   obtain ⟨pr,hpk,e1⟩:=x_g (R:=fun r (q:Nat×Nat)=>H r=some (.tup [.int (q.1:Int),.int (q.2:Int)])) hpr hrr
   have hil:=(List.getElem?_eq_some_iff.mp hpk).1
   obtain ⟨pa,pb⟩:=pr
   rw [List.drop_eq_getElem_cons hil,(List.getElem?_eq_some_iff.mp hpk).2] at hRi
   cases hRi with
   | cons ha hb h1 h2 hrest =>
   obtain ⟨dx2,ho2⟩:=CJ.1
   refine ⟨rr,_,rfl,SqT.of (sJ _ _ e1),rfl,_,_,rfl,_,_,rfl,rfl,?_⟩
   refine ⟨_,rfl,oo,dx2,_,rfl,ho2,t_r (by decide),_,rfl,_,rfl,oo,l,n,Ri,pa,pb,rfl,CJ,by lia,by lia,.inr (.inr ⟨h1,h2,fun J3 c3 C3=>?_⟩)⟩
   exact ⟨_,_,_,rfl,Ch.same fl sJ c3,C3,hrest⟩
  ·rintro σ J ⟨x5,x6,Ri,rfl,sJ,CJ,hRi⟩
   rw [List.length_map,hlen,List.drop_length] at hRi
   cases hRi
   exact hD _ _ ⟨_,_,rfl,sJ,CJ⟩
 rintro σ J ⟨x5,x6,rfl,sJ,CJ⟩
 refine ⟨_,rfl,w,b,g,o,W,rfl,hW.same sJ,ok,fun p2 g2 rs2 H3 hp2 hg2 _ s3 hN3=>?_⟩
 have s03:=sJ.trans s3
 obtain ⟨⟨LL,hLL⟩,_⟩:=CJ.lst
 have ng2:g2≠l:=(z_h hLL hg2).symm
 have nsp:sp≠l:=by
  obtain ⟨kb,ars,h,_⟩:=hSt.ex
  exact z_h h fl
 refine ⟨_,rfl,_,rfl,p2,oo,sp,_,rfl,hSt.same s03,?_⟩
 obtain ⟨kb2,ars2,hp2',hpr2⟩:=hGo.ex
 have hgl:ars2.length=goals.length:=hpr2.length
 obtain ⟨kb3,ars3,hp3,hpr3⟩:=hSt.ex
 cases hpr3
 refine u_z (fun N hN=>⟨_,rfl,hN⟩) (s03 _ _ hp2') (fun i σ J=>∃ (x5 x6:Option V),σ=[some (.ref w),some (.ref kp),some (.ref gp),some (.ref sp),some (.ref oo),x5,x6]/\Same H J/\ClsAt A.c_Classes J oo l n R/\∀ q∈goals.take i,R q.1=R q.2) ⟨_,_,rfl,s03,CJ.same s3,fun q h=>absurd h (by simp)⟩ ?_ ?_ ?_
 ·rintro i σ J ⟨_,_,_,sJ,_⟩
  exact sJ _ _ hp2'
 ·rintro i v σ J hv ⟨x5,x6,rfl,sJ,CJ,hq⟩
  rw [List.getElem?_map] at hv
  obtain ⟨rr,hrr,rfl⟩:=Option.map_eq_some_iff.mp hv
  obtain ⟨pr,hpk,e1⟩:=x_g (R:=fun r (q:Nat×Nat)=>H r=some (.tup [.int (q.1:Int),.int (q.2:Int)])) hpr2 hrr
  have hmem:=List.mem_of_getElem? hpk
  obtain ⟨lx,ly⟩:=hal _ hmem
  obtain ⟨dx2,ho2⟩:=CJ.1
  refine ⟨rr,_,rfl,SqT.of (sJ _ _ e1),rfl,_,_,rfl,_,_,rfl,rfl,?_⟩
  refine ⟨_,rfl,oo,dx2,_,rfl,ho2,t_r (by decide),_,rfl,_,rfl,oo,l,n,R,pr.1,pr.2,rfl,CJ,by lia,by lia,fun J2 ch2 C2=>⟨_,rfl,?_⟩⟩
  have sJ2:=Ch.same fl sJ ch2
  by_cases exy:R pr.1=R pr.2
  ·refine x_f (by rw [decide_eq_true exy];rfl) ?_
   refine ⟨_,_,rfl,sJ2,C2,fun q h=>?_⟩
   rw [u_m hpk] at h
   rcases List.mem_append.mp h with h | h
   ·exact hq q h
   ·rw [List.mem_singleton.mp h];exact exy
  ·refine v_x (by rw [decide_eq_false exy];rfl) ?_
   refine ⟨_,rfl,_,_,rfl,sq_len (sJ2 _ _ hp3),(by show 2<=100;decide),fun a ha=>⟨a, "now",rfl,z_d,by decide +kernel,fun d hd nd=>⟨rfl,⟨_,xo_at nd⟩,q2 (fun h=>exy (h _ hmem)) _ (same_off sJ2 ha hd nd)⟩⟩⟩
 ·rintro σ J ⟨_,_,_,sJ,_,hq⟩
  rw [List.length_map,hgl,List.take_length] at hq
  exact q1 hq J sJ
theorem r_d(T:Tx w K mg A)(G_NoPaper_init:FnOk P w K mg base CX0 1 A.a_NoPaper_init A.d_NoPaper_init ["self", "where", "at"] (p_x A.c_NoPaper))(G_look_starts:FnOk P w K mg base CX0 4 A.a_look_starts A.d_look_starts ["work", "kept", "steps"] s_t)(G_look_nexts:FnOk P w K mg base CX0 4 A.a_look_nexts A.d_look_nexts ["work", "kept", "steps"] p_f)(G_look_nows:FnOk P w K mg base (CXF P w) 4 A.a_look_nows A.d_look_nows ["work", "kept", "goals", "steps"] (n_g A.c_NoPaper))(G_is_pair:FnOk P w K mg base CX0 4 A.a_is_pair A.d_is_pair ["thing", "knots"] s_j)(G_knots_in:FnOk P w K mg base CX0 1 A.a_knots_in A.d_knots_in ["work"] n_f):FnOk P w K mg base (CXF P w) 5 A.a_look_paper A.d_look_paper ["work", "goals", "paper"] (p_g A.c_NoPaper):=by
 refine T.F_look_paper.okF sc_look_paper (fun vs H Q E h=>?_) (fun cdv A' outer s H vs Q E hr h=>?_)
 ·obtain ⟨w,b,g,o,gp,p,W,kept,goals,R,rfl,hW,ok,h400,hGo,hPp,hX,q1,q2⟩:=h
  rfl
 obtain ⟨w,b,g,o,gp,p,W,kept,goals,R,rfl,hW,ok,h400,hGo,hPp,hX,q1,q2⟩:=h
 refine ⟨_,(z_e (x_d (PT.nox (PW.pt (m_h (v_p (y_n (z_n (w_s (T := "tuple")) rfl T.isinstance PyProof.Rows.boot_isinstance (z_a (pv 2) (z_a (v_s (v:=.ty "tuple") rfl T.tuple PyProof.Rows.boot_tuple rfl) z_b))) (fun _=>rfl))) (m_h (y_d u_v (z_n z_s rfl T.len PySem.boot_len (z_a (pv 2) z_b)) z_c (nomark _)) (q_r (v_p (y_n (z_n m_y rfl T.all PyProof.Rows.boot_all (z_a (s_b [] (fun _ _ h=>h) rfl (s_c (pv 2)) (fun _ _ _ _=>y_q) (fun _ _ _ _=>(z_n (n_k (K:=K) rfl (S := "list") (T := "tuple")) rfl T.isinstance PyProof.Rows.boot_isinstance (z_a (pv 0) (z_a (y_c (z_a (v_s (v:=.ty "list") rfl T.list PyProof.Rows.boot_list rfl) (z_a (v_s (v:=.ty "tuple") rfl T.tuple PyProof.Rows.boot_tuple rfl) z_b))) z_b)))) rfl (show ∀ j∈([]:List Nat),j<6 by decide) (show (["part"]:List Str).Nodup by decide +kernel)) z_b)) (fun _=>rfl)))))))) (z_g (s_d rfl rfl raisesO G_NoPaper_init (hr.mono (by first | decide | lia)) T.B_NoPaper_init rfl T.M_NoPaper T.o_NoPaper T.ty_NoPaper (z_a y_t (z_a z_c z_b)))) z_x)
  (z_e (PS.nox (z_z (i:=3) sc_look_paper.nd rfl (Or.inl rfl) (z_o z_i (pv 2) z_c (fun _ _=>rfl))))
  (z_e (v_a PassesOwn.leaving rfl (p_y (r_g rfl T.enumerate (z_a (pv 3) z_b)) (r_h rfl T.enumerate (z_a (pv 3) z_b))) (x_a rfl (z_p (z_q (i:=4) sc_look_paper.nd rfl (Or.inl rfl)) (z_p (z_q (i:=5) sc_look_paper.nd rfl (Or.inl rfl)) y_v)))
    (z_g (x_d (PT.nox (v_p (y_n (z_j G_is_pair (hr.mono (by first | decide | lia)) rfl T.M_is_pair T.F_is_pair.kp T.B_is_pair .nil pass0 (z_a (pv 5) (z_a (z_j G_knots_in (hr.mono (by first | decide | lia)) rfl T.M_knots_in T.F_knots_in.kp T.B_knots_in .nil pass0 (z_a (pv 0) z_b)) z_b))) (fun _=>rfl)))) (z_g (s_d rfl rfl raisesO G_NoPaper_init (hr.mono (by first | decide | lia)) T.B_NoPaper_init rfl T.M_NoPaper T.o_NoPaper T.ty_NoPaper (z_a y_t (z_a (pv 4) z_b)))) z_x)))
  (z_e (PS.nox (y_o (z_j G_look_starts (hr.mono (by first | decide | lia)) rfl T.M_look_starts T.F_look_starts.kp T.B_look_starts .nil pass0 (z_a (pv 0) (z_a (pv 3) (z_a (z_o z_i (pv 2) z_c (fun _ _=>rfl)) z_b))))))
  (z_e (PS.nox (y_o (z_j G_look_nexts (hr.mono (by first | decide | lia)) rfl T.M_look_nexts T.F_look_nexts.kp T.B_look_nexts .nil pass0 (z_a (pv 0) (z_a (pv 3) (z_a (z_o z_i (pv 2) z_c (fun _ _=>rfl)) z_b))))))
  (z_g (y_o (z_j G_look_nows (hr.mono (by first | decide | lia)) rfl T.M_look_nows T.F_look_nows.kp T.B_look_nows .nil passF (z_a (pv 0) (z_a (pv 3) (z_a (pv 1) (z_a (z_o z_i (pv 2) z_c (fun _ _=>rfl)) z_b)))))))))))),?_⟩
 obtain ⟨a1,a2,a3,a4,hp,hk,h2,h3,h4⟩:=hPp
 have hkb:=hX.kb
 refine ⟨_,rfl,_,_,true,rfl,TyOf.tup hp,rfl,_,rfl,x_f rfl ?_⟩
 refine ⟨_,rfl,_,_,rfl,.inr ⟨_,SqT.of hp,rfl⟩,rfl,_,rfl,x_f (by show (!decide (V.int ((4:Nat):Int)=V.int 4))=false;decide) ?_⟩
 have ty:∀ {J:Hp} {a:Addr},(∃ kb xs,J a=some (sqO kb xs))->∃ t,TyOf K J (.ref a) t/\PySem.W.kitAny K t [.type "list",.type "tuple"]=some true:=fun {J a} h=>by
  obtain ⟨kb,xs,h⟩:=h
  cases kb with
  | true=>exact ⟨_,TyOf.lst h,rfl⟩
  | false=>exact ⟨_,TyOf.tup h,rfl⟩
 have sq:∀ a∈[a1,a2,a3,a4],∃ kb xs,H a=some (sqO kb xs):=fun a ha=>by
  simp only [List.mem_cons,List.not_mem_nil,or_false] at ha
  rcases ha with rfl | rfl | rfl | rfl
  ·obtain ⟨kb,rs,h,_⟩:=hk.ex;exact ⟨kb,_,h⟩
  ·obtain ⟨kb,rs,h,_⟩:=h2.ex;exact ⟨kb,_,h⟩
  ·obtain ⟨kb,rs,h,_⟩:=h3.ex;exact ⟨kb,_,h⟩
  ·obtain ⟨kb,rs,h,_⟩:=h4.ex;exact ⟨kb,_,h⟩
 refine ⟨_,rfl,p,rfl,⟨_,SqT.of hp⟩,comp_tup (xs:=[.ref a1,.ref a2,.ref a3,.ref a4]) (fun i ys J=>Same H J/\ys=List.replicate i (V.bl true)) ⟨Same.refl H,rfl⟩ ?_ ?_ ?_ ?_⟩
 ·rintro i ys J _ ⟨sJ,_⟩
  exact SqT.of (sJ _ _ hp)
 ·rintro i ys J hi ⟨_,rfl⟩
  rw [List.length_replicate]
  exact w_r (by have:i<4:=hi;lia)
 ·rintro i v ys J hv ⟨sJ,rfl⟩
  have hm:∃ a∈[a1,a2,a3,a4],v = .ref a:=by
   have:=List.mem_of_getElem? hv
   simp only [List.mem_cons,List.not_mem_nil,or_false] at this
   rcases this with rfl | rfl | rfl | rfl
   ·exact ⟨a1,by simp,rfl⟩
   ·exact ⟨a2,by simp,rfl⟩
   ·exact ⟨a3,by simp,rfl⟩
   ·exact ⟨a4,by simp,rfl⟩
  obtain ⟨a,ha,rfl⟩:=hm
  obtain ⟨kb,xs,hx⟩:=sq a ha
  unfold tYes
  refine iteT ⟨_,rfl,zl2,fun t2 ht2=>?_⟩
  have t1:=z_f ht2 (.tup [.ty "list",.ty "tuple"])
  obtain ⟨t,ht,hkt⟩:=ty (J:=upd J t2 (.tup [.ty "list",.ty "tuple"])) ⟨kb,xs,t1 _ _ (sJ _ _ hx)⟩
  exact ⟨_,t2,t,true,rfl,z_d,ht,hkt,sJ.trans t1,by rw [List.replicate_succ']⟩
 rintro ys J ⟨sJ,rfl⟩ pb hpb
 refine ⟨rfl,pb,List.replicate 4 true,rfl,SqL.of (by rw [z_d];rfl),_,rfl,x_f (by decide) ?_⟩
 have s1:=sJ.trans (z_f hpb (.lst (List.replicate [V.ref a1,.ref a2,.ref a3,.ref a4].length (V.bl true))))
 generalize upd J pb (.lst (List.replicate [V.ref a1,.ref a2,.ref a3,.ref a4].length (V.bl true)))=H1 at s1 ⊢
 refine ⟨_,rfl,p,_,_,_,rfl,rfl,SqT.of (s1 _ _ hp),rfl,?_⟩
 obtain ⟨kb,ars,hpk,hpr⟩:=hk.ex
 dsimp only [gName]
 refine w_c (fun σ J=>∃ (x4 x5:Option V),σ=[some (.ref w),some (.ref gp),some (.ref p),some (.ref a1),x4,x5]/\Same H J) (fun D hD=>?_) ?_
 ·refine t_m (fun N hN=>⟨_,rfl,hN⟩) (s1 _ _ hpk) (fun i σ J=>∃ (x4 x5:Option V),σ=[some (.ref w),some (.ref gp),some (.ref p),some (.ref a1),x4,x5]/\Same H J) ⟨_,_,rfl,s1⟩ ?_ ?_ (fun σ J h=>hD σ J h)
  ·rintro i σ J ⟨_,_,_,sJ⟩
   exact sJ _ _ hpk
  ·rintro i v pe σ J hv ⟨x4,x5,rfl,sJ⟩ hpe
   rw [List.getElem?_map] at hv
   obtain ⟨rr,hrr,rfl⟩:=Option.map_eq_some_iff.mp hv
   obtain ⟨pr,hpk',e1⟩:=x_g (R:=fun r (q:Nat×Nat)=>H r=some (.tup [.int (q.1:Int),.int (q.2:Int)])) hpr hrr
   obtain ⟨l1,l2⟩:=hkb _ (List.mem_of_getElem? hpk')
   have s2':=sJ.trans (z_f hpe (.tup [.int (i:Int),.ref rr]))
   refine ⟨pe,_,rfl,SqT.of z_d,rfl,_,_,rfl,_,_,rfl,rfl,?_⟩
   refine ⟨_,rfl,_,rfl,w,b,g,o,W,rfl,hW.same s2',rr,pr,W.knots,rfl,s2' _ _ e1,l1,l2,_,rfl,x_f rfl ?_⟩
   exact ⟨_,_,rfl,s2'⟩
 rintro σ J2 ⟨x4,x5,rfl,sJ2⟩
 refine ⟨_,rfl,_,rfl,_,rfl,p,_,_,_,rfl,rfl,SqT.of (sJ2 _ _ hp),rfl,w,b,g,o,a1,a2,W,kept,rfl,hW.same sJ2,ok,h400,hk.same sJ2,h2.same sJ2,hX.st,fun J3 s3'=>?_⟩
 have sJ3:=sJ2.trans s3'
 refine ⟨_,rfl,_,rfl,_,rfl,p,_,_,_,rfl,rfl,SqT.of (sJ3 _ _ hp),rfl,w,b,g,o,a1,a3,W,kept,rfl,hW.same sJ3,ok,h400,hk.same sJ3,h3.same sJ3,hX.nx,fun J4 s4'=>?_⟩
 have sJ4:=sJ3.trans s4'
 exact ⟨_,rfl,_,rfl,_,rfl,_,rfl,p,_,_,_,rfl,rfl,SqT.of (sJ4 _ _ hp),rfl,w,b,g,o,a1,gp,a4,W,kept,goals,R,rfl,hW.same sJ4,ok,h400,hk.same sJ4,hGo.same sJ4,h4.same sJ4,hX.nw,hX.gb,fun hg J5 s5'=>q1 hg J5 (sJ4.trans s5'),fun hg J5 s5'=>q2 hg J5 (sJ4.trans s5')⟩
theorem q_m(T:Tx w K mg A):FnOk P w K mg base (CXF P w) 1 A.a_look_pair A.d_look_pair ["one", "other"] (n_h A.c_NoPair):=by
 refine T.F_look_pair.okF q_w (fun vs H Q E h=>?_) (fun cdv A' outer s H vs Q E hr h=>?_)
 ·obtain ⟨w,b,g,o,w2,b2,g2,o2,A1,B1,rfl,hA,hB,q1,q2⟩:=h
  rfl
 obtain ⟨w,b,g,o,w2,b2,g2,o2,A1,B1,rfl,hA,hB,q1,q2⟩:=h
 refine ⟨_,(z_g (x_d (PT.nox (PW.pt (m_h (y_d u_v (z_o z_i (pv 0) z_c (fun _ _=>rfl)) (z_o z_i (pv 1) z_c (fun _ _=>rfl)) (nomark _)) (q_r (y_d u_v (z_n z_s rfl T.len PySem.boot_len (z_a (z_o z_i (pv 0) z_c (fun _ _=>rfl)) z_b)) (z_n z_s rfl T.len PySem.boot_len (z_a (z_o z_i (pv 1) z_c (fun _ _=>rfl)) z_b)) (nomark _)))))) (z_g (ps_raise rfl raisesF rfl T.M_NoPair T.x_NoPair (z_a y_t z_b))) z_x)),?_⟩
 have la:(A1.outs.map V.int).length=A1.outs.length:=List.length_map _
 have lb:(B1.outs.map V.int).length=B1.outs.length:=List.length_map _
 refine ⟨_,rfl,w,_,_,_,rfl,rfl,SqT.of hA.w,rfl,_,rfl,w2,_,_,_,rfl,rfl,SqT.of hB.w,rfl,rfl,_,rfl,?_⟩
 by_cases c1:A1.ins=B1.ins
 ·refine x_f (by rw [c1,decide_eq_true rfl];rfl) ?_
  refine ⟨_,rfl,w,_,_,_,rfl,rfl,SqT.of hA.w,rfl,_,_,rfl,.inl ⟨_,SqL.of hA.o,rfl⟩,_,rfl,w2,_,_,_,rfl,rfl,SqT.of hB.w,rfl,_,_,rfl,.inl ⟨_,SqL.of hB.o,rfl⟩,rfl,_,rfl,?_⟩
  by_cases c2:A1.outs.length=B1.outs.length
  ·exact x_f (by rw [la,lb,c2,decide_eq_true rfl];rfl) (q1 ⟨c1,c2⟩)
  ·exact v_x (by rw [la,lb,decide_eq_false (fun h=>c2 (by injection h;lia))];rfl) ⟨by decide,q2 fun z=>c2 z.2⟩
 ·exact v_x (by rw [decide_eq_false (fun h=>c1 (by injection h;lia))];rfl) (v_x rfl ⟨by decide,q2 fun z=>c1 z.1⟩)
theorem p_u(T:Tx w K mg A)(G_look_pair:FnOk P w K mg base (CXF P w) 1 A.a_look_pair A.d_look_pair ["one", "other"] (n_h A.c_NoPair))(G_look_paper:FnOk P w K mg base (CXF P w) 5 A.a_look_paper A.d_look_paper ["work", "goals", "paper"] (p_g A.c_NoPaper))(G_beside:FnOk P w K mg base CX0 2 A.a_beside A.d_beside ["one", "other"] p_d)(G_first_end:FnOk P w K mg base CX0 1 A.a_first_end A.d_first_end ["one", "other", "end"] v_g)(G_second_end:FnOk P w K mg base CX0 1 A.a_second_end A.d_second_end ["one", "other", "end"] w_x):FnOk P w K mg base (CXF P w) 6 A.a_look_two A.d_look_two ["one", "other", "paper"] (k_t A.c_NoPair A.c_NoPaper):=by
 refine T.F_look_two.okF sc_look_two (fun vs H Q E h=>?_) (fun cdv A' outer s H vs Q E hr h=>?_)
 ·obtain ⟨w,b,g,o,w2,b2,g2,o2,A1,B1,pq,rfl,hA,hB,okA,okB,qP,qN⟩:=h
  rfl
 obtain ⟨w,b,g,o,w2,b2,g2,o2,A1,B1,pq,rfl,hA,hB,okA,okB,qP,qN⟩:=h
 refine ⟨_,(z_e (y_o (z_j G_look_pair (hr.mono (by first | decide | lia)) rfl T.M_look_pair T.F_look_pair.kp T.B_look_pair .nil passF (z_a (pv 0) (z_a (pv 1) z_b))))
  (z_e (PS.nox (t_c ["a", "b"] [0,1] sc_look_two.nd (i:=3) rfl (Or.inl rfl) (fun _ _ h=>h) rfl (pi_zip0 rfl T.zip (z_a (z_o z_i (pv 0) z_c (fun _ _=>rfl)) (z_a (z_o z_i (pv 1) z_c (fun _ _=>rfl)) z_b))) (fun _ _ _ _=>(x_a rfl (z_p (z_q (i:=0) (show (["a", "b", "one", "other"]:List Str).Nodup by decide +kernel) rfl (Or.inl rfl)) (z_p (z_q (i:=1) (show (["a", "b", "one", "other"]:List Str).Nodup by decide +kernel) rfl (Or.inl rfl)) y_v)))) x_s (fun _ _ _ _=>y_q) (fun _ _ _ _=>(y_c (z_a (z_j G_first_end (hr.mono (by first | decide | lia)) rfl T.M_first_end T.F_first_end.kp T.B_first_end .nil pass0 (z_a (pv 2) (z_a (pv 3) (z_a (pv 0) z_b)))) (z_a (z_j G_second_end (hr.mono (by first | decide | lia)) rfl T.M_second_end T.F_second_end.kp T.B_second_end .nil pass0 (z_a (pv 2) (z_a (pv 3) (z_a (pv 1) z_b)))) z_b)))) rfl (show ∀ j∈([0,1]:List Nat),j<4 by decide) (by with_unfolding_all rfl)))
  (z_g (y_o (z_j G_look_paper (hr.mono (by first | decide | lia)) rfl T.M_look_paper T.F_look_paper.kp T.B_look_paper .nil passF (z_a (z_j G_beside (hr.mono (by first | decide | lia)) rfl T.M_beside T.F_beside.kp T.B_beside .nil pass0 (z_a (pv 0) (z_a (pv 1) z_b))) (z_a (pv 3) (z_a (pv 2) z_b)))))))),?_⟩
 refine ⟨_,rfl,_,rfl,w,b,g,o,w2,b2,g2,o2,A1,B1,rfl,hA,hB,fun hz=>?_,qP⟩
 obtain ⟨p,goals,kept,R,rfl,hX,q1,q2⟩:=qN hz
 obtain ⟨hi,ho⟩:=hz
 have hGo:=hX.go
 have lo:=okA.outs
 refine ⟨_,rfl,w,_,_,_,rfl,rfl,SqT.of hA.w,rfl,_,rfl,w2,_,_,_,rfl,rfl,SqT.of hB.w,rfl,o,o2,rfl,⟨_,SqL.of hA.o⟩,⟨_,SqL.of hB.o⟩,comp_zip (xs:=A1.outs.map V.int) (us:=B1.outs.map V.int) (fun i ys J=>Same H J/\∃ rs:List Addr,ys=rs.map V.ref/\Paired (fun r (q:Int×Int)=>J r=some (.tup [.int q.1,.int q.2])) rs (((A1.outs.zip B1.outs).map fun q=>(F1 A1 B1 q.1,F2 A1 B1 q.2)).take i)) ⟨Same.refl H,[],rfl,.nil⟩ ?_ (by rw [List.length_map,List.length_map,ho]) ?_ ?_ ?_⟩
 ·rintro i ys J _ ⟨sJ,_⟩
  exact ⟨SqL.of (sJ _ _ hA.o),SqL.of (sJ _ _ hB.o)⟩
 ·rintro i ys J hi' ⟨_,rs,rfl,hpr⟩
  have:=hpr.length
  rw [List.length_take] at this
  rw [List.length_map] at hi' ⊢
  exact w_r (by lia)
 ·rintro i x y pz ys J os hos hx hy ⟨sJ,rs,rfl,hpr⟩ hpz
  rw [List.getElem?_map] at hx hy
  obtain ⟨xa,hxa,rfl⟩:=Option.map_eq_some_iff.mp hx
  obtain ⟨yb,hyb,rfl⟩:=Option.map_eq_some_iff.mp hy
  obtain ⟨o0,o1,rfl⟩:∃ a b,os=[a,b]:=two_ex hos
  have t1:=z_f hpz (.tup [.int xa,.int yb])
  have s1:=sJ.trans t1
  refine ⟨pz,_,rfl,SqT.of z_d,rfl,_,_,rfl,_,_,rfl,rfl,?_⟩
  dsimp only [gName]
  unfold tYes
  refine iteT ⟨_,rfl,_,rfl,_,rfl,w,b,g,o,w2,b2,g2,o2,A1,B1,xa,rfl,hA.same s1,hB.same s1,_,rfl,_,rfl,_,rfl,w,b,g,o,w2,b2,g2,o2,A1,B1,yb,rfl,hA.same s1,hB.same s1,hi,zl2,fun t ht=>?_⟩
  have t2:=z_f ht (.tup [.int (F1 A1 B1 xa),.int (F2 A1 B1 yb)])
  refine ⟨s1.trans t2,rs++[t],by rw [List.map_append];rfl,?_⟩
  rw [u_m (x:=(F1 A1 B1 xa,F2 A1 B1 yb)) (by rw [List.getElem?_map,(List.getElem?_zip_eq_some (z:=(xa,yb))).mpr ⟨hxa,hyb⟩];rfl)]
  refine x_u ?_ (z_t (fun _ _ e=>t2 _ _ (t1 _ _ e)) hpr)
  exact z_d
 rintro ys J ⟨sJ,rs,rfl,hpr⟩ pg hpg
 have t1:=z_f hpg (.lst (rs.map V.ref))
 have fg:=z_d (H:=J) (a:=pg) (o:=.lst (rs.map V.ref))
 have s1:=sJ.trans t1
 dsimp only [gName]
 generalize upd J pg (.lst (rs.map V.ref))=J1 at t1 fg s1 ⊢
 rw [List.length_map,List.take_of_length_le (by rw [List.length_map,List.length_zip];lia),<-hGo] at hpr
 have hpr1:Paired (fun r (q:Nat×Nat)=>J1 r=some (.tup [.int (q.1:Int),.int (q.2:Int)])) rs goals:=by
  unfold gI at hpr
  exact z_t (fun r q e=>t1 _ _ e) (pairedUnmap (R:=fun r (q:Int×Int)=>J r=some (.tup [.int q.1,.int q.2])) (f:=fun p:Nat×Nat=>((p.1:Int),(p.2:Int))) hpr)
 have hG1:PrsA J1 pg goals:=⟨true,rs,fg,hpr1⟩
 refine ⟨_,rfl,_,rfl,w,b,g,o,w2,b2,g2,o2,A1,B1,rfl,hA.same s1,hB.same s1,okA,okB,hi,fun pj qj rj tj J2 _ _ _ _ _ _ _ s2' hJ=>?_⟩
 have s02:=s1.trans s2'
 exact ⟨_,rfl,_,rfl,pj,qj,rj,tj,pg,p,bes A1 B1,kept,goals,R,rfl,hJ,hX.ok,hX.kn,hG1.same s2',hX.pa.same s02,hX.px,fun hg J3 s3'=>q1 hg J3 (s02.trans s3'),fun hg J3 s3'=>q2 hg J3 (s02.trans s3')⟩
theorem ok_L_row(T:Tx w K mg A):FnOk P w K mg base CX0 1 A.a_L_row A.d_L_row ["_law_script", "_law_at", "_law_many"] (p_b K):=by
 refine T.F_L_row.ok sc_L_row (fun vs H Q E h=>?_) (fun cdv A' outer s H vs Q E hr h=>?_)
 ·obtain ⟨a,ns,i,n,rfl,hS,h63,hi,hn,hn2,q⟩:=h
  rfl
 obtain ⟨a,ns,i,n,rfl,hS,h63,hi,hn,hn2,q⟩:=h
 refine ⟨_,(z_e (z_z (i:=3) sc_L_row.nd rfl (Or.inl rfl) z_c)
  (z_e (x_d (y_d m_e (pv 1) (z_n w_e rfl T.len PySem.boot_len (z_a (pv 0) z_b)) (nomark _)) (z_g (z_z (i:=3) sc_L_row.nd rfl (Or.inl rfl) (z_o x_v (pv 0) (pv 1) (fun _ _=>rfl)))) z_x)
  (z_e (z_z (i:=4) sc_L_row.nd rfl (Or.inl rfl) (z_n o_j rfl T.abs PyProof.Rows.boot_abs (z_a (pv 3) z_b)))
  (z_e (z_z (i:=5) sc_L_row.nd rfl (Or.inl rfl) (v_t op_ge (pv 4) (z_l o_x z_c z_c) (nomark _)))
  (z_e (z_z (i:=6) sc_L_row.nd rfl (Or.inl rfl) (z_y z_b))
  (z_e (v_a PassesOwn.never rfl (w_l rfl T.range (z_a (pv 2) z_b)) (z_q (i:=7) sc_L_row.nd rfl (Or.inl rfl))
    (z_g (x_d (PW.pt (o_z (t_e (pv 5) (fun _=>rfl)) (r_i (y_d op_gt (pv 4) z_c (nomark _))))) (z_e (y_o (pe_bm PySem.F.plainAttrs_list PySem.F.slot_list_append PySem.F.type_list_append v_z (pv 6) (z_a (z_l x_c (pv 4) (z_l o_x z_c z_c)) z_b)))
  (z_g (z_z (i:=4) sc_L_row.nd rfl (Or.inl rfl) (z_l y_m (pv 4) (z_l o_x z_c z_c))))) (z_e (z_z (i:=8) sc_L_row.nd rfl (Or.inl rfl) (z_l z_w (z_l z_w (z_l z_w (z_l z_w (z_l x_c (z_n o_j rfl T.abs PyProof.Rows.boot_abs (z_a (pv 3) z_b)) z_c) (z_l y_g (z_l y_g z_c (pv 7)) (pv 7))) (z_l y_g z_c (pv 1))) (z_l y_g z_c (pv 7))) z_c))
  (z_e (z_z (i:=8) sc_L_row.nd rfl (Or.inl rfl) (z_l x_c (z_l y_g (pv 8) z_c) z_c))
  (z_g (y_o (pe_bm PySem.F.plainAttrs_list PySem.F.slot_list_append PySem.F.type_list_append v_z (pv 6) (z_a (z_l x_c (z_l z_w (z_l x_c (z_l y_g (pv 8) (pv 8)) z_c) (z_l y_m (pv 8) z_c)) (z_l o_x z_c z_c)) z_b)))))))))
  (z_g (z_r (pv 6))))))))),?_⟩
 have hl:(ns.map V.int).length=ns.length:=List.length_map _
 refine w_c (fun σ J=>σ=[some (.ref a),some (.int i),some (.int n),some (.int 0),none,none,none,none,none]/\H=J) (fun D hD=>hD _ _ ⟨rfl,rfl⟩) ?_
 rintro σ J ⟨rfl,rfl⟩
 refine w_c (fun σ J=>σ=[some (.ref a),some (.int i),some (.int n),some (.int (ns.getD i.toNat 0)),none,none,none,none,none]/\H=J) (fun D hD=>?_) ?_
 ·refine ⟨_,rfl,_,rfl,_,_,rfl,.inl ⟨_,hS,rfl⟩,_,_,rfl,rfl,_,rfl,?_⟩
  refine ite2 (fun c=>?_) (fun c=>?_)
  ·have c':i<(((ns.map V.int).length:Nat):Int):=of_decide_eq_true c
   rw [hl] at c'
   obtain ⟨cell,hv,_,hc⟩:=t_h hi c'
   subst hc
   exact ⟨_,rfl,_,rfl,a,_,_,_,rfl,rfl,hS,hv,hD _ _ ⟨rfl,rfl⟩⟩
  ·have c':¬i<(((ns.map V.int).length:Nat):Int):=fun h=>c (decide_eq_true h)
   rw [hl] at c'
   have e:ns.getD i.toNat 0=0:=by rw [List.getD_eq_getElem?_getD,List.getElem?_eq_none (by lia)];rfl
   rw [e] at hD
   exact hD _ _ ⟨rfl,rfl⟩
 rintro σ J ⟨rfl,rfl⟩
 have hrow:rowOf ns i n=(rwD (ns.getD i.toNat 0) i n.toNat).2:=rfl
 generalize ns.getD i.toNat 0=cell at hrow ⊢
 refine ⟨_,rfl,_,rfl,?_⟩
 refine ⟨_,rfl,_,_,rfl,rfl,⟨by decide,by decide,by decide⟩,_,_,rfl,rfl,?_⟩
 refine ⟨zl0,fun p hp=>?_⟩
 refine ⟨_,rfl,_,rfl,by lia,by lia,q_f (lo:=0) (RowInvD a p cell i n H) ⟨absI cell,[],none,none,rfl,by unfold absI;split<;>lia,rfl,(fun _ h=>nomatch h),z_f hp _,z_d,rfl⟩ ?_ ?_⟩
 ·rintro j σ H1 hj ⟨rest,rs,x,y,rfl,hr0,hrs,hd,hs1,hp1,hR⟩
  have hlen:(rs.map V.int).length<sizeLine:=by rw [List.length_map];exact w_r (by lia)
  have big:∀ (v rest':Int),0<=v->v<1000000->0<=rest'->rwD cell i (j+1)=(rest',rs++[v])->∀ (x' y':Option V),RowInvD a p cell i n H (j+1) [some (V.ref a),some (.int i),some (.int n),some (.int cell),some (.int rest'),some (.bl (decide (10^(18:Int).toNat<=absI cell))),some (.ref p),x',y'] (upd H1 p (.lst (rs.map V.int++[.int v]))):=fun v rest' h0 h1 hr' hR' x' y' =>
   ⟨rest',rs++[v],_,_,rfl,hr',by rw [List.length_append,hrs];rfl,hd.snoc h0 h1,v_f hs1 hp _,by rw [z_d,List.map_append];rfl,hR'⟩
  have low:¬(10^(18:Int).toNat<=absI cell/\0<rest)->∀ (x' y':Option V),RowInvD a p cell i n H (j+1) [some (V.ref a),some (.int i),some (.int n),some (.int cell),some (.int rest),some (.bl (decide (10^(18:Int).toNat<=absI cell))),some (.ref p),x',y'] (upd H1 p (.lst (rs.map V.int++[.int (rwM cell i j)]))):=fun c x' y' =>
   big _ _ (Int.emod_nonneg _ (by decide)) (Int.lt_of_lt_of_le (Int.emod_lt_of_pos _ (show (0:Int)<10^(6:Int).toNat by decide)) (by decide)) hr0 (rwD_lo hR c) x' y'
  refine ⟨_,rfl,_,rfl,?_⟩
  refine ite2 (fun c1=>?_) (fun c1=>?_)
  ·refine ⟨_,rfl,_,_,rfl,rfl,_,rfl,?_⟩
   refine ite2 (fun c2=>?_) (fun c2=>?_)
   ·refine ⟨_,rfl,.inl ⟨rfl,_,SqL.of hp1⟩,_,rfl,_,_,rfl,rfl,⟨by decide,by decide,by decide⟩,_,_,rfl,rfl,(by show (0:Int)<10^4;decide),p,_,_,rfl,rfl,hp1,hlen,?_⟩
    refine ⟨_,rfl,_,_,rfl,rfl,⟨by decide,by decide,by decide⟩,_,_,rfl,rfl,(by show (0:Int)<10^4/\(10:Int)^4<bigB;exact ⟨by decide,by decide⟩),?_⟩
    exact big _ _ (Int.emod_nonneg _ (by decide)) (Int.lt_trans (Int.emod_lt_of_pos rest (show (0:Int)<10^(4:Int).toNat by decide)) (by decide)) (Int.ediv_nonneg hr0 (show (0:Int)<=10^(4:Int).toNat by decide)) (rwD_hi hR (of_decide_eq_true c1) (of_decide_eq_true c2)) _ _
   ·refine ⟨_,rfl,_,rfl,_,_,rfl,rfl,(by show (0:Int)<1000003;decide),_,rfl,_,_,rfl,rfl,.inl ⟨by decide,by decide⟩,_,rfl,_,_,rfl,rfl,.inr ⟨by lia,by lia⟩,_,_,rfl,rfl,_,rfl,_,_,rfl,rfl,.inl ⟨by decide,by decide⟩,_,_,rfl,rfl,_,rfl,_,_,rfl,rfl,.inl ⟨by decide,by decide⟩,_,_,rfl,rfl,_,_,rfl,rfl,?_⟩
    refine ⟨_,rfl,_,_,rfl,rfl,.inr ⟨by decide,by decide⟩,_,_,rfl,rfl,(by show (0:Int)<2147483647;decide),?_⟩
    refine ⟨_,rfl,.inl ⟨rfl,_,SqL.of hp1⟩,_,rfl,_,rfl,_,_,rfl,rfl,.inl ⟨by lia,by lia⟩,_,_,rfl,rfl,(by show (0:Int)<2147483629;decide),_,rfl,_,_,rfl,rfl,⟨by decide,by decide⟩,_,_,rfl,rfl,_,_,rfl,rfl,⟨by decide,by decide,by decide⟩,_,_,rfl,rfl,(by show (0:Int)<10^6;decide),p,_,_,rfl,rfl,hp1,hlen,?_⟩
    exact low (fun h=>c2 (decide_eq_true h.2)) _ _
  ·refine iteF ?_
   refine ⟨_,rfl,_,rfl,_,_,rfl,rfl,(by show (0:Int)<1000003;decide),_,rfl,_,_,rfl,rfl,.inl ⟨by decide,by decide⟩,_,rfl,_,_,rfl,rfl,.inr ⟨by lia,by lia⟩,_,_,rfl,rfl,_,rfl,_,_,rfl,rfl,.inl ⟨by decide,by decide⟩,_,_,rfl,rfl,_,rfl,_,_,rfl,rfl,.inl ⟨by decide,by decide⟩,_,_,rfl,rfl,_,_,rfl,rfl,?_⟩
   refine ⟨_,rfl,_,_,rfl,rfl,.inr ⟨by decide,by decide⟩,_,_,rfl,rfl,(by show (0:Int)<2147483647;decide),?_⟩
   refine ⟨_,rfl,.inl ⟨rfl,_,SqL.of hp1⟩,_,rfl,_,rfl,_,_,rfl,rfl,.inl ⟨by lia,by lia⟩,_,_,rfl,rfl,(by show (0:Int)<2147483629;decide),_,rfl,_,_,rfl,rfl,⟨by decide,by decide⟩,_,_,rfl,rfl,_,_,rfl,rfl,⟨by decide,by decide,by decide⟩,_,_,rfl,rfl,(by show (0:Int)<10^6;decide),p,_,_,rfl,rfl,hp1,hlen,?_⟩
   exact low (fun h=>c1 (decide_eq_true h.1)) _ _
 ·rintro σ H1 ⟨rest,rs,x,y,rfl,hr0,hrs,hd,hs1,hp1,hR⟩
  exact ⟨_,rfl,q p rs H1 hp hs1 hp1 (by rw [hrs];lia) hd (by rw [hrow,hR])⟩
theorem l_z(T:Tx w K mg A):FnOk P w K mg base CX0 1 A.a_L_size A.d_L_size ["_law_number", "_law_many"] p_c:=by
 refine T.F_L_size.ok k_m (fun vs H Q E h=>?_) (fun cdv A' outer s H vs Q E hr h=>?_)
 ·obtain ⟨n,m,rfl,hn,hm,hm2,q⟩:=h
  rfl
 obtain ⟨n,m,rfl,hn,hm,hm2,q⟩:=h
 refine ⟨_,(z_g (z_r (z_l z_w (z_l x_c (pv 0) (pv 1)) (z_l y_g z_c (w_k r_x rfl T.int PyProof.Rows.boot_int (z_a (v_t k_d (z_l x_c (z_l y_m (pv 0) (pv 1)) z_c) z_c (nomark _)) z_b)))))),?_⟩
 exact ⟨_,rfl,_,rfl,_,_,rfl,rfl,hm,_,rfl,_,rfl,_,_,rfl,rfl,⟨hm,Int.lt_trans hm2 (by decide)⟩,_,_,rfl,rfl,(by show (0:Int)<8;decide),rfl,.inr ⟨_,rfl,_,_,rfl,rfl,.inl ⟨by decide,by decide⟩,_,_,rfl,rfl,q⟩⟩
theorem k_a(T:Tx w K mg A)(G_L_size:FnOk P w K mg base CX0 1 A.a_L_size A.d_L_size ["_law_number", "_law_many"] p_c):FnOk P w K mg base CX0 2 A.a_L_work A.d_L_work ["_law_row_here", "_law_sizes"] (s_i K):=by
 refine T.F_L_work.ok sc_L_work (fun vs H Q E h=>?_) (fun cdv A' outer s H vs Q E hr h=>?_)
 ·obtain ⟨a,z,rs,zs,rfl,hA,hZ,hrs,hd,hz4,hz0,q⟩:=h
  rfl
 obtain ⟨a,z,rs,zs,rfl,hA,hZ,hrs,hd,hz4,hz0,q⟩:=h
 refine ⟨_,(z_e (z_z (i:=2) sc_L_work.nd rfl (Or.inl rfl) (z_j G_L_size (hr.mono (by first | decide | lia)) rfl T.M_L_size T.F_L_size.kp T.B_L_size .nil pass0 (z_a (z_o x_v (pv 1) z_c (fun _ _=>rfl)) (z_a z_c z_b))))
  (z_e (z_z (i:=3) sc_L_work.nd rfl (Or.inl rfl) (z_j G_L_size (hr.mono (by first | decide | lia)) rfl T.M_L_size T.F_L_size.kp T.B_L_size .nil pass0 (z_a (z_o x_v (pv 1) z_c (fun _ _=>rfl)) (z_a z_c z_b))))
  (z_e (z_z (i:=4) sc_L_work.nd rfl (Or.inr rfl) (z_l z_w (z_l z_w z_c (pv 2)) (pv 3)))
  (z_e (z_z (i:=5) sc_L_work.nd rfl (Or.inl rfl) (z_y z_b))
  (z_e (v_a PassesOwn.never rfl (w_l rfl T.range (z_a (z_l x_c (z_o x_v (pv 1) z_c (fun _ _=>rfl)) z_c) z_b)) (z_q (i:=6) sc_L_work.nd rfl (Or.inl rfl))
    (z_e (y_o (pe_bm PySem.F.plainAttrs_list PySem.F.slot_list_append PySem.F.type_list_append v_z (pv 5) (z_a (y_c (z_a (z_l x_c (z_o x_v (pv 0) (z_l y_g z_c (pv 6)) (fun _ _=>rfl)) (z_l y_g z_c (pv 4))) (z_a (z_l x_c (z_o x_v (pv 0) (z_l z_w (z_l y_g z_c (pv 6)) z_c) (fun _ _=>rfl)) (z_l y_g z_c (pv 4))) z_b))) z_b)))
  (z_g (z_z (i:=4) sc_L_work.nd rfl (Or.inr rfl) (z_l z_w (pv 4) z_c)))))
  (z_e (p_z [0,4] sc_L_work.nd (i:=7) rfl (Or.inl rfl) (fun _ _ h=>h) rfl (w_l rfl T.range (z_a (pv 3) z_b)) (fun _ _ _ _=>y_q) (fun _ _ _ _=>(y_c (z_a (z_l x_c (z_o (s_v (K:=K) rfl) (pv 1) (z_l z_w z_c (z_l y_g z_c (pv 0))) (fun _ _=>rfl)) z_c) (z_a (z_l x_c (z_o (s_v (K:=K) rfl) (pv 1) (z_l z_w z_c (z_l y_g z_c (pv 0))) (fun _ _=>rfl)) (z_l y_g z_c (pv 2))) z_b)))) rfl (show ∀ j∈([0,4]:List Nat),j<8 by decide) (show (["_law_k", "_law_row_here", "_law_knots"]:List Str).Nodup by decide +kernel) (by with_unfolding_all rfl))
  (z_g (z_r (y_c (z_a (pv 2) (z_a (pv 7) (z_a (pv 5) (z_a (s_b [0,4] (fun _ _ h=>h) rfl (w_l rfl T.range (z_a (z_j G_L_size (hr.mono (by first | decide | lia)) rfl T.M_L_size T.F_L_size.kp T.B_L_size .nil pass0 (z_a (z_o x_v (pv 1) z_c (fun _ _=>rfl)) (z_a z_c z_b))) z_b)) (fun _ _ _ _=>y_q) (fun _ _ _ _=>(z_l x_c (z_o (s_v (K:=K) rfl) (pv 1) (z_l z_w z_c (pv 0)) (fun _ _=>rfl)) (z_l y_g z_c (pv 2)))) rfl (show ∀ j∈([0,4]:List Nat),j<8 by decide) (show (["_law_k", "_law_row_here", "_law_knots"]:List Str).Nodup by decide +kernel)) z_b))))))))))))),?_⟩
 have zat:∀ j:Int,0<=j->j<4->∃ v:Int,atI (zs.map V.int) j=some (.int v)/\0<=v:=fun j h0 h1=>by
  obtain ⟨v,h1,h2,_⟩:=t_h h0 (show j<zs.length by lia)
  exact ⟨v,h1,hz0 v h2⟩
 have rat:∀ j:Int,0<=j->j<60->∃ v:Int,atI (rs.map V.int) j=some (.int v)/\0<=v/\v<1000000:=fun j h0 h1=>hd.at h0 (by rw [hrs];exact h1)
 obtain ⟨z0,hz0',hz0m,hz0e⟩:=t_h (ns:=zs) (i:=0) (by decide) (by lia)
 have hz0p:=hz0 z0 hz0m
 have hz0e:z0=zs.getD 0 0:=hz0e
 obtain ⟨z1,hz1',hz1p⟩:=zat 1 (by decide) (by decide)
 obtain ⟨z2,hz2',hz2p⟩:=zat 2 (by decide) (by decide)
 obtain ⟨z3,hz3',hz3p⟩:=zat 3 (by decide) (by decide)
 refine ⟨_,rfl,z,_,_,_,rfl,rfl,hZ,hz0',_,_,rfl,hz0p,by decide,by decide,?_⟩
 obtain ⟨i0,i1⟩:=t_t (n:=z0) (show (0:Int)<4 by decide)
 generalize hins:lsz z0 4=ins at i0 i1 ⊢
 refine ⟨_,rfl,z,_,_,_,rfl,rfl,hZ,hz1',_,_,rfl,hz1p,by decide,by decide,?_⟩
 obtain ⟨m0,m1⟩:=t_t (n:=z1) (show (0:Int)<5 by decide)
 generalize lsz z1 5=many at m0 m1 ⊢
 obtain ⟨ins,rfl⟩:=Int.eq_ofNat_of_zero_le i0
 obtain ⟨many,rfl⟩:=Int.eq_ofNat_of_zero_le m0
 refine ⟨_,rfl,_,_,rfl,rfl,_,rfl,_,_,rfl,rfl,?_⟩
 refine ⟨zl0,fun g hg=>?_⟩
 have e1:=Int.emod_nonneg z2 (show (13:Int)≠0 by decide)
 have e2:=Int.emod_lt_of_pos z2 (show (0:Int)<13 by decide)
 refine ⟨_,rfl,z,_,_,_,rfl,rfl,(z_f hg _).seq hZ,hz2',_,_,rfl,rfl,(by show (0:Int)<13;decide),_,rfl,by lia,by lia,q_f (lo:=0) (fun j σ H'=>∃ (ts:List Addr) (ps:List (Int×Int)) (x:Option V),σ=[some (.ref a),some (.ref z),some (.int ins),some (.int many),some (.int (1+ins+many+j)),some (.ref g),x,none]/\ps.length=j/\PrsR H' g ts ps/\Same H H'/\∀ (k:Nat) (q:Int×Int),ps[k]? = some q->(0<=q.1/\q.1<2*(((1+ins+many:Nat):Int)+k))/\0<=q.2/\q.2<2*(((1+ins+many:Nat):Int)+k))
  ⟨[],[],none,(by congr 6),rfl,⟨z_d,.nil⟩,z_f hg _,fun k q h=>by simp at h⟩ ?_ ?_⟩
 ·rintro j σ H1 hj ⟨ts,ps,x,rfl,hps,hP,hs1,hb⟩
  obtain ⟨v1,hv1,v10,_⟩:=rat (2*(0+(j:Int))) (by lia) (by lia)
  obtain ⟨v2,hv2,v20,_⟩:=rat (2*(0+(j:Int))+1) (by lia) (by lia)
  have kp:(0:Int)<2*(1+(ins:Int)+many+j):=by lia
  refine ⟨_,rfl,.inl ⟨rfl,_,SqL.of hP.1⟩,_,rfl,_,rfl,_,_,rfl,rfl,.inl ⟨by decide,by decide⟩,a,_,_,_,rfl,rfl,hs1.seq hA,hv1,_,rfl,_,_,rfl,rfl,.inl ⟨by decide,by decide⟩,_,_,rfl,rfl,kp,_,rfl,_,rfl,_,_,rfl,rfl,.inl ⟨by decide,by decide⟩,_,_,rfl,rfl,a,_,_,_,rfl,rfl,hs1.seq hA,hv2,_,rfl,_,_,rfl,rfl,.inl ⟨by decide,by decide⟩,_,_,rfl,rfl,kp,zl2,fun t ht=>?_⟩
  have hgt:g≠t:=fun e=>by rw [<-e,hP.1] at ht;cases ht
  refine ⟨g,_,_,rfl,rfl,(by rw [z_m hgt];exact hP.1),(by rw [List.length_map,hP.length];exact w_r (by lia)),?_⟩
  refine ⟨_,rfl,_,_,rfl,rfl,?_⟩
  refine ⟨ts++[t],ps++[(v1%(2*(1+(ins:Int)+many+j)),v2%(2*(1+(ins:Int)+many+j)))],some (.int (0+(j:Int))),(by rw [show (1+(ins:Int)+many+((j+1:Nat):Int))=1+ins+many+j+1 by push_cast;lia];rfl),by rw [List.length_append,hps];rfl,hP.push ht _ _,v_f (v_f hs1 (hs1.free ht) _) hg _,fun k q hk=>?_⟩
  by_cases hlt:k<ps.length
  ·rw [List.getElem?_append_left hlt] at hk
   exact hb k q hk
  ·rw [List.getElem?_append_right (by lia)] at hk
   have hk0:k-ps.length=0:=by
    cases h:k-ps.length with
    | zero=>rfl
    | succ m=>rw [h] at hk;simp at hk
   rw [hk0] at hk
   have hq:=Option.some.inj hk
   subst hq
   have hkj:k=j:=by lia
   subst hkj
   refine ⟨⟨Int.emod_nonneg _ (by lia),?_⟩,Int.emod_nonneg _ (by lia),?_⟩
   ·have:=Int.emod_lt_of_pos v1 kp
    push_cast
    lia
   ·have:=Int.emod_lt_of_pos v2 kp
    push_cast
    lia
 ·rintro σ H1 ⟨ts,ps,x,rfl,hps,hP,hs1,hb⟩
  generalize hkn:1+(ins:Int)+many+((z2%13).toNat:Int)=kn
  have kp:(0:Int)<2*kn:=by lia
  refine ⟨_,rfl,_,rfl,by lia,by lia,v_j (lo:=0) (fun j ys H'=>∃ (bs:List Addr) (qs:List (Int×Int)),ys=bs.map V.ref/\qs.length=j/\Paired (fun r (p:Int×Int)=>H' r=some (.tup [.int p.1,.int p.2])) bs qs/\Same H1 H'/\∀ b∈qs,(b.1=0\/b.1=1)/\0<=b.2/\b.2<2*kn)
   ⟨[],[],rfl,rfl,.nil,Same.refl _,fun _ h=>nomatch h⟩ ?_ ?_ ?_⟩
  ·rintro j ys H' hj ⟨bs,qs,rfl,hqs,hB,_,_⟩
   rw [List.length_map,Paired.length hB]
   exact w_r (by lia)
  ·rintro j ys H2 hj ⟨bs,qs,rfl,hqs,hB,hs2,hbb⟩
   obtain ⟨v1,hv1,v10,_⟩:=rat (24+2*(0+(j:Int))) (by lia) (by lia)
   obtain ⟨v2,hv2,v20,_⟩:=rat (25+2*(0+(j:Int))) (by lia) (by lia)
   unfold tYes
   refine iteT ⟨_,rfl,_,rfl,_,_,rfl,rfl,.inl ⟨by decide,by decide⟩,_,_,rfl,rfl,a,_,_,_,rfl,rfl,(hs1.trans hs2).seq hA,hv1,_,_,rfl,rfl,(by show (0:Int)<2;decide),_,rfl,_,rfl,_,_,rfl,rfl,.inl ⟨by decide,by decide⟩,_,_,rfl,rfl,a,_,_,_,rfl,rfl,(hs1.trans hs2).seq hA,hv2,_,rfl,_,_,rfl,rfl,.inl ⟨by decide,by decide⟩,_,_,rfl,rfl,kp,zl2,fun t ht=>?_⟩
   refine ⟨bs++[t],qs++[(v1%2,v2%(2*kn))],by rw [List.map_append];rfl,by rw [List.length_append,hqs];rfl,pairsNew _ _ hB ht,hs2.trans (z_f ht _),fun b hb'=>?_⟩
   rcases List.mem_append.mp hb' with h | h
   ·exact hbb b h
   ·rw [List.mem_singleton.mp h]
    exact ⟨by show v1%2=0\/v1%2=1;lia,Int.emod_nonneg _ (by lia),Int.emod_lt_of_pos _ kp⟩
  ·rintro ys H2 ⟨bs,qs,rfl,hqs,hB,hs2,hbb⟩ b hbn
   have hs3:=hs2.trans (z_f hbn (.lst (bs.map V.ref)))
   refine ⟨_,rfl,_,rfl,_,rfl,_,rfl,z,_,_,_,rfl,rfl,((hs1.trans hs3).seq hZ),hz3',_,_,rfl,hz3p,by decide,by decide,?_⟩
   obtain ⟨n0,n1⟩:=t_t (n:=z3) (show (0:Int)<4 by decide)
   generalize lsz z3 4=no at n0 n1 ⊢
   refine ⟨_,rfl,by lia,by lia,v_j (lo:=0) (fun j ys H'=>∃ os:List Int,ys=os.map V.int/\os.length=j/\H'=_/\∀ o∈os,0<=o/\o<2*kn) ⟨[],rfl,rfl,rfl,fun _ h=>nomatch h⟩ ?_ ?_ ?_⟩
   ·rintro j ys H' hj ⟨os,rfl,ho,_,_⟩
    rw [List.length_map]
    exact w_r (by lia)
   ·rintro j ys H' hj ⟨os,rfl,ho,rfl,hob⟩
    obtain ⟨v1,hv1,v10,_⟩:=rat (40+(0+(j:Int))) (by lia) (by lia)
    unfold tYes
    refine iteT ⟨_,rfl,_,rfl,_,_,rfl,rfl,a,_,_,_,rfl,rfl,(hs1.trans hs3).seq hA,hv1,_,rfl,_,_,rfl,rfl,.inl ⟨by decide,by decide⟩,_,_,rfl,rfl,kp,?_⟩
    refine ⟨os++[v1%(2*kn)],by rw [List.map_append];rfl,by rw [List.length_append,ho];rfl,rfl,fun o h=>?_⟩
    rcases List.mem_append.mp h with h | h
    ·exact hob o h
    ·rw [List.mem_singleton.mp h]
     exact ⟨Int.emod_nonneg _ (by lia),Int.emod_lt_of_pos _ kp⟩
   ·rintro ys H' ⟨os,rfl,ho,rfl,hob⟩ o hon
    have hs4:=hs3.trans (z_f hon (.lst (os.map V.int)))
    refine ⟨zl4,fun w hw=>?_⟩
    have hs5:=hs4.trans (z_f hw (.tup [.int ins,.ref b,.ref g,.ref o]))
    refine q w b g o ⟨ins,qs,ps,os⟩ _ ((hs1.trans hs4).free hw) ((hs1.trans hs2).free hbn) hg ((hs1.trans hs3).free hon) (hs1.trans hs5) ⟨z_d,⟨bs,?_⟩,⟨ts,hP.same hs5⟩,?_⟩ ⟨by show ins<=7;lia,by show qs.length<=40;lia,by show ps.length<=2000;lia,by show os.length<=20;lia,fun k g' hk=>?_,fun b' hb'=>?_,fun o' ho'=>?_⟩ (by show ps.length<=12;lia) (by show os.length<=8;lia) (by show qs.length<=8;lia)
    ·have hs':=(z_f hon (.lst (os.map V.int))).trans (z_f hw (.tup [.int ins,.ref b,.ref g,.ref o]))
     refine PrsR.same hs' ⟨z_d,z_t (fun r p q=>?_) hB⟩
     rw [z_m (z_h q hbn)]
     exact q
    ·exact (z_f hw _) _ _ z_d
    ·have:=hb k g' hk
     show (0<=g'.1/\g'.1<2*(((1+ins+qs.length:Nat):Int)+k))/\0<=g'.2/\g'.2<2*(((1+ins+qs.length:Nat):Int)+k)
     have e:qs.length=many:=by lia
     rw [e]
     exact this
    ·have:=hbb b' hb'
     show (b'.1=0\/b'.1=1)/\0<=b'.2/\b'.2<2*((1+ins+qs.length+ps.length:Nat):Int)
     refine ⟨this.1,this.2.1,?_⟩
     push_cast
     lia
    ·have:=hob o' ho'
     show 0<=o'/\o'<2*((1+ins+qs.length+ps.length:Nat):Int)
     refine ⟨this.1,?_⟩
     push_cast
     lia
theorem n_z(T:Tx w K mg A)(G_look_two:FnOk P w K mg base (CXF P w) 6 A.a_look_two A.d_look_two ["one", "other", "paper"] (k_t A.c_NoPair A.c_NoPaper)):FnOk P w K mg base CX0 7 A.a_L_asked A.d_L_asked ["_law_one", "_law_other", "_law_paper"] s_r:=by
 refine T.F_L_asked.ok sc_L_asked (fun vs H Q E h=>?_) (fun cdv A' outer s H vs Q E hr h=>?_)
 ·obtain ⟨w,b,g,o,w2,b2,g2,o2,A1,B1,pq,rfl,hA,hB,okA,okB,qP,qN⟩:=h
  rfl
 obtain ⟨w,b,g,o,w2,b2,g2,o2,A1,B1,pq,rfl,hA,hB,okA,okB,qP,qN⟩:=h
 refine ⟨_,(z_e (ps_tryN rfl rfl rfl (fun _ _=>(z_g (z_z (i:=3) sc_L_asked.nd rfl (Or.inl rfl) (pe_callX G_look_two (hr.mono (by first | decide | lia)) rfl T.M_look_two T.F_look_two.kp T.B_look_two .nil (z_a (pv 0) (z_a (pv 1) (z_a (pv 2) z_b))))))) (.named (i:=4) rfl T.M_NoPair (.ofK T.x_NoPair) (by decide) sc_L_asked.nd rfl rfl (fun _=>(z_e (x_d (y_n (z_n (r_y rfl) rfl T.isinstance PyProof.Rows.boot_isinstance (z_a (pv 4) (z_a (y_c (z_a (x_o (v:=.ref A.c_Never) rfl T.M_Never rfl) (z_a (x_o (v:=.ref A.c_NoName) rfl T.M_NoName rfl) (z_a (x_o (v:=.ref A.c_NoPaper) rfl T.M_NoPaper rfl) (z_a (x_o (v:=.ref A.c_NoPart) rfl T.M_NoPart rfl) (z_a (x_o (v:=.ref A.c_NoPlan) rfl T.M_NoPlan rfl) (z_a (x_o (v:=.ref A.c_NoRow) rfl T.M_NoRow rfl) (z_a (x_o (v:=.ref A.c_NoText) rfl T.M_NoText rfl) (z_a (x_o (v:=.ref A.c_NoWidth) rfl T.M_NoWidth rfl) (z_a (x_o (v:=.ref A.c_NoWord) rfl T.M_NoWord rfl) z_b)))))))))) z_b))) (fun _=>rfl)) (z_g (z_r y_t)) z_x)
  (z_e (x_d (PW.pt (m_h (y_n (z_n (r_y rfl) rfl T.isinstance PyProof.Rows.boot_isinstance (z_a (pv 4) (z_a (y_c (z_a (x_o (v:=.ref A.c_Ring) rfl T.M_Ring rfl) (z_a (x_o (v:=.ref A.c_TooMuch) rfl T.M_TooMuch rfl) (z_a (x_o (v:=.ref A.c_Twice) rfl T.M_Twice rfl) z_b)))) z_b))) (fun _=>rfl)) (q_r (v_p (y_n (z_n (call_isx rfl) rfl T.isinstance PyProof.Rows.boot_isinstance (z_a (pv 4) (z_a (v_s (v:=.ty "ValueError") rfl T.ValueError t_i rfl) z_b))) (fun _=>rfl)))))) (z_g (z_r y_t)) z_x)
  (z_g (z_r y_t))))) (.plain rfl T.M_NoPaper (.ofI T.o_NoPaper) (by decide) (fun _=>(z_g (z_r y_t))) (.plain rfl T.M_ForgeError (.ofK T.x_ForgeError) (by decide) (fun _=>(z_g (z_r y_t))) .nil))))
  (z_g (z_r (z_o v_y (z_y (z_a y_t (z_a y_t z_b))) (w_k r_x rfl T.int PyProof.Rows.boot_int (z_a (v_t op_isN (pv 3) k_e (nomark _)) z_b)) (fun _ _=>rfl))))),?_⟩
 ·refine ⟨_,rfl,_,rfl,_,rfl,w,b,g,o,w2,b2,g2,o2,A1,B1,pq,rfl,hA,hB,okA,okB,fun hz=>?_,fun hz=>?_⟩
  ·refine ⟨A.c_NoPair,_,true,rfl,.ofK T.x_NoPair,by simp [List.contains_cons],?_⟩
   rw [if_pos rfl]
   intro a ha
   have s0:=z_f ha (EXO a (.ref A.c_NoPair))
   have e0:=z_d (H:=H) (a:=a) (o:=EXO a (.ref A.c_NoPair))
   show tSeq _ _ _ [some (.ref w),some (.ref w2),some pq,none,some (.ref a)] (upd H a (EXO a (.ref A.c_NoPair)))
   generalize upd H a (EXO a (.ref A.c_NoPair))=H1 at s0 e0 ⊢
   refine ⟨_,rfl,zl9,fun p hp=>?_⟩
   have s1:=z_f hp (.tup [.ref A.c_Never,.ref A.c_NoName,.ref A.c_NoPaper,.ref A.c_NoPart,.ref A.c_NoPlan,.ref A.c_NoRow,.ref A.c_NoText,.ref A.c_NoWidth,.ref A.c_NoWord])
   refine ⟨a,A.c_NoPair,p,_,_,_,false,rfl,z_d,.cons (.cons (.cons (.cons (.cons (.cons (.cons (.cons (.cons .nil)))))))),s1 _ _ e0,T.x_NoPair,T.q_NoPair,T.i_no1,_,rfl,x_f rfl ?_⟩
   refine ⟨_,rfl,zl3,fun p2 hp2=>?_⟩
   have s2:=z_f hp2 (.tup [.ref A.c_Ring,.ref A.c_TooMuch,.ref A.c_Twice])
   refine ⟨a,A.c_NoPair,p2,_,_,_,false,rfl,z_d,.cons (.cons (.cons .nil)),s2 _ _ (s1 _ _ e0),T.x_NoPair,T.q_NoPair,T.i_no2,_,rfl,x_f rfl ?_⟩
   refine ⟨_,rfl,a,A.c_NoPair,_,_,.type "ValueError",true,rfl,rfl,(fun u h=>h),s2 _ _ (s1 _ _ e0),T.x_NoPair,T.q_NoPair,T.i_val,_,rfl,x_f rfl ?_⟩
   exact qP hz _ ((s0.trans s1).trans s2)
  ·obtain ⟨p,goals,kept,R,rfl,hX,q1,q2⟩:=qN hz
   refine ⟨p,goals,kept,R,rfl,hX,fun hg H' s'=>?_,fun hg H' s'=>?_⟩
   ·refine ⟨zl2,fun p9 hp9=>⟨_,rfl,rfl,.inr ⟨_,rfl,p9,_,_,_,rfl,rfl,SqL.of z_d,rfl,q1 hg _ (s'.trans (z_f hp9 _))⟩⟩⟩
   have n1:A.c_NoPaper≠A.c_NoPair:=T.ne_PP
   refine ⟨A.c_NoPaper,_,false,rfl,.ofI T.o_NoPaper,?_,?_⟩
   ·have nb:bmV.contains (.ref A.c_NoPair)=false:=by unfold bmV;rfl
    rw [List.contains_cons,List.contains_cons,nb,Bool.or_false,show (Value.ref A.c_NoPair == Value.ref A.c_NoPaper)=false from beq_eq_false_iff_ne.mpr fun h=>n1 (by injection h with h;exact h.symm),show (Value.ref A.c_NoPair == Value.ref A.c_ForgeError)=false from beq_eq_false_iff_ne.mpr fun h=>T.ne_PF (by injection h with h;exact h.symm)]
    rfl
   rw [if_neg (by decide)]
   refine ⟨A.c_NoPaper,_,true,rfl,.ofI T.o_NoPaper,by simp [List.contains_cons],?_⟩
   rw [if_pos rfl]
   exact q2 hg H' s'
theorem l_y(T:Tx w K mg A):FnOk P w K mg base CX0 1 A.a_L_copy A.d_L_copy ["_law_work_here"] p_e:=by
 refine T.F_L_copy.ok k_l (fun vs H Q E h=>?_) (fun cdv A' outer s H vs Q E hr h=>?_)
 ·obtain ⟨w,b,g,o,W,rfl,hW,q⟩:=h
  rfl
 obtain ⟨w,b,g,o,W,rfl,hW,q⟩:=h
 refine ⟨_,(z_g (z_r (y_c (z_a (z_o z_i (pv 0) z_c (fun _ _=>rfl)) (z_a (w_k x_r rfl T.list PyProof.Rows.boot_list (z_a (z_o z_i (pv 0) z_c (fun _ _=>rfl)) z_b)) (z_a (w_k x_r rfl T.list PyProof.Rows.boot_list (z_a (z_o z_i (pv 0) z_c (fun _ _=>rfl)) z_b)) (z_a (w_k x_r rfl T.list PyProof.Rows.boot_list (z_a (z_o z_i (pv 0) z_c (fun _ _=>rfl)) z_b)) z_b))))))),?_⟩
 obtain ⟨bs,hB⟩:=hW.b
 obtain ⟨gr,hG⟩:=hW.g
 refine ⟨_,rfl,w,_,_,_,rfl,rfl,SqT.of hW.w,rfl,_,rfl,w,_,_,_,rfl,rfl,SqT.of hW.w,rfl,b,_,rfl,.inl (SqL.of hB.1),fun b2 hb2=>?_⟩
 have t1:=z_f hb2 (.lst (bs.map V.ref))
 refine ⟨_,rfl,w,_,_,_,rfl,rfl,SqT.of (t1 _ _ hW.w),rfl,g,_,rfl,.inl (SqL.of (t1 _ _ hG.1)),fun g2 hg2=>?_⟩
 have t2:=t1.trans (z_f hg2 (.lst (gr.map V.ref)))
 refine ⟨_,rfl,w,_,_,_,rfl,rfl,SqT.of (t2 _ _ hW.w),rfl,o,_,rfl,.inl (SqL.of (t2 _ _ hW.o)),fun o2 ho2=>⟨zl4,fun w2 hw2=>?_⟩⟩
 have u3:=z_f ho2 (.lst (W.outs.map V.int))
 have u4:=z_f hw2 (.tup [.int (W.ins:Int),.ref b2,.ref g2,.ref o2])
 have s4:=t2.trans (u3.trans u4)
 refine q w2 b2 g2 o2 _ s4 ⟨z_d,⟨bs,?_⟩,⟨gr,?_⟩,u4 _ _ z_d⟩
 ·exact ⟨((z_f hg2 (.lst (gr.map V.ref))).trans (u3.trans u4)) _ _ z_d,(hB.same s4).2⟩
 ·exact ⟨(u3.trans u4) _ _ z_d,(hG.same s4).2⟩
theorem ok_law(T:Tx w K mg A)(G_L_row:FnOk P w K mg base CX0 1 A.a_L_row A.d_L_row ["_law_script", "_law_at", "_law_many"] (p_b K))(G_L_work:FnOk P w K mg base CX0 2 A.a_L_work A.d_L_work ["_law_row_here", "_law_sizes"] (s_i K))(G_L_copy:FnOk P w K mg base CX0 1 A.a_L_copy A.d_L_copy ["_law_work_here"] p_e)(G_L_asked:FnOk P w K mg base CX0 7 A.a_L_asked A.d_L_asked ["_law_one", "_law_other", "_law_paper"] s_r):FnOk P w K mg base CX0 8 A.a_law A.d_law ["_law_script"] (k_s K A.tp_bits_of_both y_h y_j A.tp_sets_of_both y_i y_k):=by
 refine T.F_law.ok sc_law (fun vs H Q E h=>?_) (fun cdv A' outer s H vs Q E hr h=>?_)
 ·obtain ⟨a,ns,rfl,hS,h63,htp,_,q⟩:=h
  rfl
 obtain ⟨a,ns,rfl,hS,h63,htp,_,q⟩:=h
 have hu64:=hr.units
 refine ⟨_,(z_e (v_a PassesOwn.never rfl (k_g rfl T.range (z_a z_c (z_a (z_n (q_a rfl) rfl T.max PyProof.Rows.boot_max (z_a z_c (z_a (z_n (q_b rfl) rfl T.min PyProof.Rows.boot_min (z_a (z_l s_a (z_n w_e rfl T.len PySem.boot_len (z_a (pv 0) z_b)) z_c) (z_a z_c z_b))) z_b))) (z_a z_c z_b)))) (z_q (i:=1) sc_law.nd rfl (Or.inl rfl))
    (z_e (z_z (i:=2) sc_law.nd rfl (Or.inl rfl) (z_j G_L_row (hr.mono (by first | decide | lia)) rfl T.M_L_row T.F_L_row.kp T.B_L_row .nil pass0 (z_a (pv 0) (z_a (pv 1) (z_a z_c z_b)))))
  (z_e (z_z (i:=3) sc_law.nd rfl (Or.inr rfl) (z_j G_L_work (hr.mono (by first | decide | lia)) rfl T.M_L_work T.F_L_work.kp T.B_L_work .nil pass0 (z_a (z_j G_L_row (hr.mono (by first | decide | lia)) rfl T.M_L_row T.F_L_row.kp T.B_L_row .nil pass0 (z_a (pv 0) (z_a (z_l z_w (pv 1) z_c) (z_a z_c z_b)))) (z_a (pv 2) z_b))))
  (z_e (z_z (i:=4) sc_law.nd rfl (Or.inl rfl) (z_j G_L_work (hr.mono (by first | decide | lia)) rfl T.M_L_work T.F_L_work.kp T.B_L_work .nil pass0 (z_a (z_j G_L_row (hr.mono (by first | decide | lia)) rfl T.M_L_row T.F_L_row.kp T.B_L_row .nil pass0 (z_a (pv 0) (z_a (z_l z_w (pv 1) z_c) (z_a z_c z_b)))) (z_a (pe_slice sl_list (pv 2) (po_some z_c) po_none) z_b))))
  (z_e (z_z (i:=5) sc_law.nd rfl (Or.inl rfl) (z_y (z_a (z_j G_L_copy (hr.mono (by first | decide | lia)) rfl T.M_L_copy T.F_L_copy.kp T.B_L_copy .nil pass0 (z_a (pv 3) z_b)) (z_a (z_j G_L_copy (hr.mono (by first | decide | lia)) rfl T.M_L_copy T.F_L_copy.kp T.B_L_copy .nil pass0 (z_a (pv 4) z_b)) z_b))))
  (z_e (z_z (i:=6) sc_law.nd rfl (Or.inl rfl) (z_o x_v (z_y (z_a (y_c (z_a (z_y z_b) (z_a (z_y z_b) (z_a (z_y z_b) (z_a (z_y z_b) z_b))))) (z_a k_e (z_a (y_c (z_a (z_y (z_a (y_c (z_a z_c (z_a z_c z_b))) z_b)) (z_a (z_y z_b) (z_a (z_y z_b) (z_a (z_y z_b) z_b))))) (z_a (y_c z_b) (z_a (z_y (z_a (z_y z_b) (z_a (z_y z_b) (z_a (z_y z_b) (z_a (z_y z_b) z_b))))) (z_a (y_c (z_a (z_y (z_a k_e z_b)) (z_a (z_y z_b) (z_a (z_y z_b) (z_a (z_y z_b) z_b))))) z_b))))))) (z_l x_c (z_o x_v (pv 2) z_c (fun _ _=>rfl)) z_c) (fun _ _=>rfl)))
  (z_e (z_z (i:=7) sc_law.nd rfl (Or.inl rfl) (pe_or (v_t u_v (z_o x_w (pv 3) z_c (fun _ _=>rfl)) (z_o x_w (pv 4) z_c (fun _ _=>rfl)) (nomark _)) (o_y (v_t u_v (z_n w_e rfl T.len PySem.boot_len (z_a (z_o x_w (pv 3) z_c (fun _ _=>rfl)) z_b)) (z_n w_e rfl T.len PySem.boot_len (z_a (z_o x_w (pv 4) z_c (fun _ _=>rfl)) z_b)) (nomark _)))))
  (z_e (x_d (PW.pt (o_z (t_e (pv 7) (fun _=>rfl)) (r_i (y_d u_v (z_j G_L_asked (hr.mono (by first | decide | lia)) rfl T.M_L_asked T.F_L_asked.kp T.B_L_asked .nil pass0 (z_a (pv 3) (z_a (pv 4) (z_a (pv 6) z_b)))) y_t (nomark _))))) (z_g (z_r s_o)) z_x)
  (z_e (x_d (PW.pt (o_z (t_e (pv 7) (fun _=>rfl)) (r_i (y_d u_v (z_j G_L_asked (hr.mono (by first | decide | lia)) rfl T.M_L_asked T.F_L_asked.kp T.B_L_asked .nil pass0 (z_a (pv 4) (z_a (pv 3) (z_a (y_c (z_a (z_y z_b) (z_a (z_y z_b) (z_a (z_y z_b) (z_a (z_y z_b) z_b))))) z_b)))) y_t (nomark _))))) (z_g (z_r s_o)) z_x)
  (z_e (z_z (i:=8) sc_law.nd rfl (Or.inl rfl) (y_c (z_a (z_o x_w (pv 3) z_c (fun _ _=>rfl)) (z_a (z_o x_w (pv 3) z_c (fun _ _=>rfl)) (z_a (z_o x_w (pv 3) z_c (fun _ _=>rfl)) (z_a (z_l op_cat (z_o x_w (pv 3) z_c (fun _ _=>rfl)) (z_y (z_a z_c z_b))) z_b))))))
  (z_e (x_d (PW.pt (m_h (y_d u_v (z_j G_L_asked (hr.mono (by first | decide | lia)) rfl T.M_L_asked T.F_L_asked.kp T.B_L_asked .nil pass0 (z_a (pv 3) (z_a (pv 8) (z_a (pv 6) z_b)))) y_t (nomark _)) (q_r (y_d u_v (z_j G_L_asked (hr.mono (by first | decide | lia)) rfl T.M_L_asked T.F_L_asked.kp T.B_L_asked .nil pass0 (z_a (pv 8) (z_a (pv 3) (z_a (pv 6) z_b)))) y_t (nomark _))))) (z_g (z_r s_o)) z_x)
  (z_e (z_z (i:=9) sc_law.nd rfl (Or.inr rfl) (s_b [3] (fun _ _ h=>h) rfl (w_l rfl T.range (z_a (z_n w_e rfl T.len PySem.boot_len (z_a (z_o x_w (pv 3) z_c (fun _ _=>rfl)) z_b)) z_b)) (fun _ _ _ _=>y_q) (fun _ _ _ _=>(z_l y_g z_c (z_l z_w (z_l z_w z_c (z_o (p_q (K:=K) rfl) (pv 1) z_c (fun _ _=>rfl))) (pv 0)))) rfl (show ∀ j∈([3]:List Nat),j<13 by decide) (show (["_law_j", "_law_one"]:List Str).Nodup by decide +kernel)))
  (z_e (p_z [9] sc_law.nd (i:=10) rfl (Or.inl rfl) (fun _ _ h=>h) rfl (k_f (pv 9)) (fun _ _ _ _=>y_q) (fun _ _ _ _=>(y_c (z_a (pv 0) (z_a (z_l z_w (pv 0) (z_l y_g z_c (z_n (m_z (K:=K) rfl) rfl T.len PySem.boot_len (z_a (pv 1) z_b)))) z_b)))) rfl (show ∀ j∈([9]:List Nat),j<13 by decide) (show (["_law_end", "_law_boxes"]:List Str).Nodup by decide +kernel) (by with_unfolding_all rfl))
  (z_e (z_z (i:=11) sc_law.nd rfl (Or.inl rfl) (y_c (z_a (z_o x_w (pv 3) z_c (fun _ _=>rfl)) (z_a (u_b ["_law_j", "_law_box"] [3] (fun _ _ h=>h) rfl (r_g rfl T.enumerate (z_a (z_o x_w (pv 3) z_c (fun _ _=>rfl)) z_b)) (fun _ _ _ _=>(pg_tup rfl (z_p (z_q (i:=0) (show (["_law_j", "_law_box", "_law_one"]:List Str).Nodup by decide +kernel) rfl (Or.inl rfl)) (z_p (z_q (i:=1) (show (["_law_j", "_law_box", "_law_one"]:List Str).Nodup by decide +kernel) rfl (Or.inl rfl)) y_v)))) x_s (fun _ _ _ _=>y_q) (fun _ _ _ _=>(y_c (z_a (z_o (p_q (K:=K) rfl) (pv 1) z_c (fun _ _=>rfl)) (z_a (z_l y_g z_c (z_l z_w (z_l z_w z_c (z_o (p_q (K:=K) rfl) (pv 2) z_c (fun _ _=>rfl))) (pv 0))) z_b)))) rfl (show ∀ j∈([3]:List Nat),j<13 by decide)) (z_a (z_y z_b) (z_a (pv 9) z_b))))))
  (z_e (x_d (y_d u_v (z_j G_L_asked (hr.mono (by first | decide | lia)) rfl T.M_L_asked T.F_L_asked.kp T.B_L_asked .nil pass0 (z_a (pv 11) (z_a (pv 11) (z_a (y_c (z_a (pv 10) (z_a (y_c z_b) (z_a (z_y z_b) (z_a (y_c z_b) z_b))))) z_b)))) y_t (nomark _)) (z_g (z_r s_o)) z_x)
  (z_e (z_z (i:=12) sc_law.nd rfl (Or.inl rfl) (y_c (z_a (z_o x_w (pv 11) z_c (fun _ _=>rfl)) (z_a (z_o x_w (pv 11) z_c (fun _ _=>rfl)) (z_a (z_y z_b) (z_a (m_g rfl rfl T.list rfl T.reversed (pv 9)) z_b))))))
  (z_e (x_d (PW.pt (o_z (y_d op_gt (z_n w_e rfl T.len PySem.boot_len (z_a (pv 9) z_b)) z_c (nomark _)) (r_i (y_d u_v (z_j G_L_asked (hr.mono (by first | decide | lia)) rfl T.M_L_asked T.F_L_asked.kp T.B_L_asked .nil pass0 (z_a (pv 11) (z_a (pv 12) (z_a (y_c (z_a (pv 10) (z_a (z_y z_b) (z_a (z_y z_b) (z_a (z_y z_b) z_b))))) z_b)))) y_t (nomark _))))) (z_g (z_r s_o)) z_x)
  (z_g (x_d (y_d (op_neD hu64) (z_y (z_a (pv 3) (z_a (pv 4) z_b))) (pv 5) (nomark _)) (z_g (z_r s_o)) z_x)))))))))))))))))))
  (z_g (z_r s_o))),?_⟩
 have hl:(ns.map V.int).length=ns.length:=List.length_map _
 have hmx:∀ M:Int,M=(if (if 8<((ns.map V.int).length:Int)-1 then 8 else ((ns.map V.int).length:Int)-1) > 2 then (if 8<((ns.map V.int).length:Int)-1 then 8 else ((ns.map V.int).length:Int)-1) else 2)->2<=M/\M<=8:=fun M hM=>by
  rw [hM,hl]
  split<;>split<;>lia
 refine ⟨_,rfl,_,_,rfl,.inl ⟨_,hS,rfl⟩,_,_,rfl,rfl,_,_,rfl,_,_,rfl,_,_,_,rfl,⟨by decide,by decide,?_⟩,n_p (lo:=0) (c:=2) (fun i σ H'=>∃ x1 x2 x3 x4 x5 x6 x7 x8 x9 x10 x11 x12,σ=[some (.ref a),x1,x2,x3,x4,x5,x6,x7,x8,x9,x10,x11,x12]/\Same H H') ⟨_,_,_,_,_,_,_,_,_,_,_,_,rfl,Same.refl _⟩ ?_ ?_⟩
 ·generalize hM:(if (if 8<((ns.map V.int).length:Int)-1 then 8 else ((ns.map V.int).length:Int)-1) > 2 then (if 8<((ns.map V.int).length:Int)-1 then 8 else ((ns.map V.int).length:Int)-1) else 2)=M
  obtain ⟨m0,m1⟩:=hmx M hM.symm
  unfold Builtin.Range.small Builtin.Range.rangeFitsLong Builtin.Range.rangeSize
  have h2:(M-0-1)/2<=100:=by lia
  have h3:0<=(M-0-1)/2:=by lia
  simp only [Bool.and_eq_true,Bool.or_eq_true,decide_eq_true_eq,beq_iff_eq,show (2:Int) > 0 by decide,if_true,show (0:Int)<M by lia]
  lia
 ·rintro i σ H2 hi ⟨x1,x2,x3,x4,x5,x6,x7,x8,x9,x10,x11,x12,rfl,s2⟩
  have hi100:i<=100:=by
   generalize hM:(if (if 8<((ns.map V.int).length:Int)-1 then 8 else ((ns.map V.int).length:Int)-1) > 2 then (if 8<((ns.map V.int).length:Int)-1 then 8 else ((ns.map V.int).length:Int)-1) else 2)=M at hi
   obtain ⟨m0,m1⟩:=hmx M hM.symm
   unfold Builtin.Range.rangeSize at hi
   rw [if_pos (by decide),if_pos (by lia)] at hi
   lia
  refine ⟨_,rfl,_,rfl,a,ns,_,_,rfl,s2.seq hS,h63,by lia,by decide,by decide,fun z zs H3 hz s3 hz3 hzl hzd _=>?_⟩
  refine ⟨_,rfl,_,rfl,_,_,rfl,rfl,a,ns,_,_,rfl,(s2.trans s3).seq hS,h63,by lia,by decide,by decide,fun r rs H4 hr s4 hr4 hrl hrd _=>?_⟩
  refine ⟨_,rfl,r,z,rs,zs,rfl,SqL.of hr4,SqL.of (s4 _ _ hz3),by lia,hrd,by lia,fun x hx=>(hzd x hx).1,fun w b g o A1 H5 _ _ _ _ s5 hA okA g12 o8 b8=>?_⟩
  have s05:=s2.trans (s3.trans (s4.trans s5))
  have hz5:=(s4.trans s5) _ _ hz3
  clear hr4 hz3 s3 s4 s5
  refine ⟨_,rfl,_,rfl,_,_,rfl,rfl,a,ns,_,_,rfl,s05.seq hS,h63,by lia,by decide,by decide,fun r6 rs6 H6 hr6 s6 hr66 hrl6 hrd6 _=>?_⟩
  have hz6:=s6 _ _ hz5
  refine ⟨_,rfl,_,rfl,z,_,rfl,SqL.of hz6,fun p7 hp7=>?_⟩
  have u7:=z_f hp7 (.lst (cutV (zs.map V.int) (some 4) none))
  have hcut:cutV (zs.map V.int) (some 4) none=(zs.drop 4).map V.int:=by
   rw [show (some (4:Int))=some ((4:Nat):Int) from rfl,cut_from (by rw [List.length_map];lia),List.map_drop]
  have f7:=z_d (H:=H6) (a:=p7) (o:=.lst (cutV (zs.map V.int) (some 4) none))
  rw [hcut] at f7
  rw [hcut] at u7 ⊢
  refine ⟨r6,p7,rs6,zs.drop 4,rfl,SqL.of (u7 _ _ hr66),SqL.of z_d,by lia,hrd6,by rw [List.length_drop];lia,fun x hx=>(hzd x (List.mem_of_mem_drop hx)).1,fun w2 b2 g2 o2 B1 H8 _ _ _ _ s8 hB okB g12' o8' b8'=>?_⟩
  have s68:=s6.trans (u7.trans s8)
  have hA8:=hA.same s68
  have hz8:=s68 _ _ hz5
  have s08:=s05.trans s68
  clear hA s68 s6 u7 s8 hz6 hr66 s05 hz5 f7
  refine ⟨_,rfl,w,b,g,o,A1,rfl,hA8,fun w3 b3 g3 o3 H9 s9 hA3=>⟨_,rfl,w2,b2,g2,o2,B1,rfl,hB.same s9,fun w4 b4 g4 o4 H10 s10 hB4=>⟨zl2,fun pk hpk=>?_⟩⟩⟩
  have t11:=z_f hpk (.lst [.ref w3,.ref w4])
  have fk:=z_d (H:=H10) (a:=pk) (o:=.lst [.ref w3,.ref w4])
  have s911:=s9.trans (s10.trans t11)
  dsimp only [gName]
  generalize upd H10 pk (.lst [.ref w3,.ref w4])=H11 at t11 fk s911 ⊢
  have hA11:=hA8.same s911
  have hB11:=hB.same s911
  have hC11:=hA3.same (s10.trans t11)
  have hD11:=hB4.same t11
  have hz11:=s911 _ _ hz8
  have s011:=s08.trans s911
  clear hA8 hB hA3 hB4 hz8 s08 s911 s9 s10 t11
  refine MkdA.asg (n:=6) ?_ (by decide) fun vs H12 hvl s12 pl hpl=>?_
  ·exact .cons (.tup mk_e4 (by decide)) (.cons (.c _) (.cons (.tup (.cons (.lst (.cons (.tup (.cons (.c _) (.cons (.c _) .nil)) (by decide)) .nil) (by decide)) mk_e3) (by decide)) (.cons (.tup .nil (by decide)) (.cons (.lst mk_e4 (by decide)) (.cons (.tup (.cons (.lst (.cons (.c _) .nil) (by decide)) mk_e3) (by decide)) .nil)))))
  have t13:=z_f hpl (.lst vs)
  have fv:=z_d (H:=H12) (a:=pl) (o:=.lst vs)
  generalize upd H12 pl (.lst vs)=H13 at t13 fv ⊢
  have s113:=s12.trans t13
  obtain ⟨z7,hz7,hz7m,_⟩:=t_h (ns:=zs) (i:=7) (by decide) (by lia)
  have hz70:=(hzd z7 hz7m).1
  have m6:0<=z7%6/\z7%6<6:=by lia
  obtain ⟨k6,hk6⟩:=Int.eq_ofNat_of_zero_le m6.1
  have hv:vs[k6]? = some vs[k6]:=List.getElem?_eq_getElem (by lia)
  generalize vs[k6]=od at hv
  refine ⟨_,rfl,z,_,_,_,rfl,rfl,SqL.of (s113 _ _ hz11),hz7,_,_,rfl,rfl,(by show (0:Int)<6;decide),pl,_,_,_,rfl,rfl,SqL.of fv,(by rw [hk6];exact t_g hv),?_⟩
  have hA13:=hA11.same s113
  have hB13:=hB11.same s113
  have hC13:=hC11.same s113
  have hD13:=hD11.same s113
  have fk13:=s113 _ _ fk
  have s013:=s011.trans s113
  clear hA11 hB11 hC11 hD11 fk s011 s113 s12 t13 hz11 fv
  dsimp only [gName]
  have la:(A1.outs.map V.int).length=A1.outs.length:=List.length_map _
  have lb:(B1.outs.map V.int).length=B1.outs.length:=List.length_map _
  refine w_c (fun σ J=>σ=[some (.ref a),some (.int (0+(i:Int)*2)),some (.ref z),some (.ref w),some (.ref w2),some (.ref pk),some od,some (.bl (!decide (Szs A1 B1))),x8,x9,x10,x11,x12]/\H13=J) (fun D hD=>?_) ?_
  ·refine ⟨_,rfl,w,_,_,_,rfl,rfl,SqT.of hA13.w,rfl,_,rfl,w2,_,_,_,rfl,rfl,SqT.of hB13.w,rfl,rfl,_,rfl,?_⟩
   by_cases c1:A1.ins=B1.ins
   ·refine x_f (by rw [c1,decide_eq_true rfl];rfl) ?_
    refine ⟨_,rfl,w,_,_,_,rfl,rfl,SqT.of hA13.w,rfl,_,_,rfl,.inl ⟨_,SqL.of hA13.o,rfl⟩,_,rfl,w2,_,_,_,rfl,rfl,SqT.of hB13.w,rfl,_,_,rfl,.inl ⟨_,SqL.of hB13.o,rfl⟩,rfl,?_⟩
    by_cases c2:A1.outs.length=B1.outs.length
    ·rw [decide_eq_true (show Szs A1 B1 from ⟨c1,c2⟩)] at hD
     rw [la,lb,c2,decide_eq_true rfl]
     exact hD _ _ ⟨rfl,rfl⟩
    ·rw [decide_eq_false (fun h:Szs A1 B1=>c2 h.2)] at hD
     rw [la,lb,decide_eq_false (fun h=>c2 (by injection h;lia))]
     exact hD _ _ ⟨rfl,rfl⟩
   ·rw [decide_eq_false (fun h:Szs A1 B1=>c1 h.1)] at hD
    refine v_x (by rw [decide_eq_false (fun h=>c1 (by injection h;lia))];rfl) ?_
    exact hD _ _ ⟨rfl,rfl⟩
  rintro σ J ⟨rfl,rfl⟩
  have ePP:(!decide (V.str "pair" = V.str "pair"))=false:=by rw [decide_eq_true rfl];rfl
  refine w_c (fun σ J=>σ=[some (.ref a),some (.int (0+(i:Int)*2)),some (.ref z),some (.ref w),some (.ref w2),some (.ref pk),some od,some (.bl (!decide (Szs A1 B1))),x8,x9,x10,x11,x12]/\Same H13 J) (fun D hD=>?_) ?_
  ·refine ⟨_,rfl,_,rfl,?_⟩
   by_cases c:Szs A1 B1
   ·exact x_f (by rw [decide_eq_true c];rfl) (iteF (hD _ _ ⟨rfl,Same.refl _⟩))
   ·refine v_x (by rw [decide_eq_false c];rfl) ⟨_,rfl,_,rfl,_,rfl,w,b,g,o,w2,b2,g2,o2,A1,B1,od,rfl,hA13,hB13,okA,okB,fun _ J s'=>⟨rfl,_,rfl,x_f ePP (hD _ _ ⟨rfl,s'⟩)⟩,fun h=>absurd h c⟩
  rintro σ J ⟨rfl,sJ⟩
  have hA14:=hA13.same sJ
  have hB14:=hB13.same sJ
  have hC14:=hC13.same sJ
  have hD14:=hD13.same sJ
  have fk14:=sJ _ _ fk13
  have s014:=s013.trans sJ
  clear hA13 hB13 hC13 hD13 fk13 s013 sJ
  refine w_c (fun σ J'=>σ=[some (.ref a),some (.int (0+(i:Int)*2)),some (.ref z),some (.ref w),some (.ref w2),some (.ref pk),some od,some (.bl (!decide (Szs A1 B1))),x8,x9,x10,x11,x12]/\Same J J') (fun D hD=>?_) ?_
  ·refine ⟨_,rfl,_,rfl,?_⟩
   by_cases c:Szs A1 B1
   ·exact x_f (by rw [decide_eq_true c];rfl) (iteF (hD _ _ ⟨rfl,Same.refl _⟩))
   ·refine v_x (by rw [decide_eq_false c];rfl) ⟨_,rfl,_,rfl,zl0,fun y1 hy1=>⟨zl0,fun y2 hy2=>⟨zl0,fun y3 hy3=>⟨zl0,fun y4 hy4=>⟨zl4,fun y5 hy5=>?_⟩⟩⟩⟩⟩
    have v5:=(z_f hy1 (.lst [])).trans ((z_f hy2 (.lst [])).trans ((z_f hy3 (.lst [])).trans ((z_f hy4 (.lst [])).trans (z_f hy5 (.tup [.ref y1,.ref y2,.ref y3,.ref y4])))))
    exact ⟨w2,b2,g2,o2,w,b,g,o,B1,A1,_,rfl,hB14.same v5,hA14.same v5,okB,okA,fun _ J' s'=>⟨rfl,_,rfl,x_f ePP (hD _ _ ⟨rfl,v5.trans s'⟩)⟩,fun h=>absurd ⟨h.1.symm,h.2.symm⟩ c⟩
  rintro σ J2 ⟨rfl,sJ⟩
  have hA15:=hA14.same sJ
  have hB15:=hB14.same sJ
  have hC15:=hC14.same sJ
  have hD15:=hD14.same sJ
  have fk15:=sJ _ _ fk14
  have s015:=s014.trans sJ
  clear hA14 hB14 hC14 hD14 fk14 s014 sJ
  obtain ⟨bs,hBx⟩:=hA15.b
  obtain ⟨gr,hGx⟩:=hA15.g
  refine ⟨_,rfl,w,_,_,_,rfl,rfl,SqT.of hA15.w,rfl,_,rfl,w,_,_,_,rfl,rfl,SqT.of hA15.w,rfl,_,rfl,w,_,_,_,rfl,rfl,SqT.of hA15.w,rfl,_,rfl,w,_,_,_,rfl,rfl,SqT.of hA15.w,rfl,zl1,fun l0 hl0=>?_⟩
  have t1:=z_f hl0 (.lst [.int 0])
  refine ⟨o,l0,_,_,rfl,rfl,t1 _ _ hA15.o,z_d,(by rw [la];exact Nat.le_trans (show A1.outs.length+1<=100 by lia) (by decide)),fun o5 ho5=>⟨zl4,fun w5 hw5=>?_⟩⟩
  have t2:=z_f ho5 (.lst (A1.outs.map V.int++[.int 0]))
  have t3:=z_f hw5 (.tup [.int (A1.ins:Int),.ref b,.ref g,.ref o5])
  have t13':=t1.trans (t2.trans t3)
  have fo5:(upd (upd (upd J2 l0 (.lst [.int 0])) o5 (.lst (A1.outs.map V.int++[.int 0]))) w5 (.tup [.int (A1.ins:Int),.ref b,.ref g,.ref o5])) o5=some (.lst ((morW A1).outs.map V.int)):=(t3 _ _ z_d).trans (congrArg (fun x=>some (HO.lst x)) (show A1.outs.map V.int++[.int 0]=(A1.outs++[0]).map V.int by rw [List.map_append];rfl))
  have fw5:(upd (upd (upd J2 l0 (.lst [.int 0])) o5 (.lst (A1.outs.map V.int++[.int 0]))) w5 (.tup [.int (A1.ins:Int),.ref b,.ref g,.ref o5])) w5=some (.tup [.int (A1.ins:Int),.ref b,.ref g,.ref o5]):=z_d
  dsimp only [gName]
  generalize upd (upd (upd J2 l0 (.lst [.int 0])) o5 (.lst (A1.outs.map V.int++[.int 0]))) w5 (.tup [.int (A1.ins:Int),.ref b,.ref g,.ref o5])=H16 at t13' fo5 fw5 ⊢
  have hE:IsWkA H16 w5 b g o5 (morW A1):=⟨fw5,⟨bs,hBx.same t13'⟩,⟨gr,hGx.same t13'⟩,fo5⟩
  have hA16:=hA15.same t13'
  have okM:=mor_ok okA o8
  refine w_c (fun σ J'=>σ=[some (.ref a),some (.int (0+(i:Int)*2)),some (.ref z),some (.ref w),some (.ref w2),some (.ref pk),some od,some (.bl (!decide (Szs A1 B1))),some (.ref w5),x9,x10,x11,x12]/\Same H16 J') (fun D hD=>?_) ?_
  ·exact ⟨_,rfl,_,rfl,_,rfl,w,b,g,o,w5,b,g,o5,A1,morW A1,od,rfl,hA16,hE,okA,okM,fun _ J3 s3=>⟨rfl,_,rfl,x_f ePP ⟨_,rfl,_,rfl,_,rfl,w5,b,g,o5,w,b,g,o,morW A1,A1,od,rfl,hE.same s3,hA16.same s3,okM,okA,fun _ J4 s4=>⟨rfl,_,rfl,x_f ePP (hD _ _ ⟨rfl,s3.trans s4⟩)⟩,fun h=>absurd h mor_un.2⟩⟩,fun h=>absurd h mor_un.1⟩
  rintro σ J3 ⟨rfl,sJ⟩
  have sJ':=t13'.trans sJ
  have hA17:=hA15.same sJ'
  have hB17:=hB15.same sJ'
  have hC17:=hC15.same sJ'
  have hD17:=hD15.same sJ'
  have fk17:=sJ' _ _ fk15
  have s017:=s015.trans sJ'
  have hBx17:=hBx.same sJ'
  clear hA15 hB15 hC15 hD15 fk15 s015 sJ' sJ t13' hE hA16 hBx hGx
  have hbl:(bs.map V.ref).length=A1.boxes.length:=by rw [List.length_map,hBx17.length]
  have el:(bxE A1).length=A1.boxes.length:=by rw [bxS_id,u_n]
  have oi:=okA.ins
  have eget:∀ k,k<A1.boxes.length->(bxE A1)[k]? = some ((2*(1+A1.ins+k):Nat):Int):=fun k hk=>by
   unfold bxE
   rw [List.getElem?_map,List.getElem?_range hk]
   rfl
  refine ⟨_,rfl,w,_,_,_,rfl,rfl,SqT.of hA17.w,rfl,_,_,rfl,.inl ⟨_,SqL.of hBx17.1,rfl⟩,(A1.boxes.length:Int),congrArg (fun x:Nat=>[V.int (x:Int)]) hbl,by lia,by lia,v_j (lo:=0) (fun k ys J'=>J3=J'/\ys=((bxE A1).take k).map V.int) ⟨rfl,rfl⟩ ?_ ?_ ?_⟩
  ·rintro k ys J' hk ⟨_,rfl⟩
   rw [List.length_map,List.length_take]
   exact w_r (by lia)
  ·rintro k ys J' hk ⟨rfl,rfl⟩
   rw [Int.toNat_natCast] at hk
   unfold tYes
   refine iteT ⟨_,rfl,w,_,_,_,rfl,rfl,SqT.of hA17.w,rfl,_,_,rfl,rfl,_,rfl,_,_,rfl,rfl,_,_,rfl,rfl,.inl ⟨by decide,by decide⟩,rfl,?_⟩
   rw [u_m (eget k hk),List.map_append]
   show _++[V.int (2*(1+(A1.ins:Int)+(0+(k:Int))))]=_++[V.int ((2*(1+A1.ins+k):Nat):Int)]
   congr 3
   lia
  rintro ys J' ⟨rfl,rfl⟩ pb hpb
  rw [Int.toNat_natCast,List.take_of_length_le (by rw [el];exact Nat.le_refl _)]
  have u1:=z_f hpb (.lst ((bxE A1).map V.int))
  have fb:=z_d (H:=J3) (a:=pb) (o:=.lst ((bxE A1).map V.int))
  dsimp only [gName]
  generalize upd J3 pb (.lst ((bxE A1).map V.int))=H18 at u1 fb ⊢
  have bl2:((bxE A1).map V.int).length=A1.boxes.length:=by rw [List.length_map,el]
  have kget:∀ k,k<A1.boxes.length->(bxK A1)[k]? = some (2*(1+A1.ins+k),2*(1+A1.ins+k)+2*A1.boxes.length):=fun k hk=>by
   unfold bxK
   rw [List.getElem?_map,List.getElem?_range hk]
   rfl
  have kl:(bxK A1).length=A1.boxes.length:=by unfold bxK;rw [List.length_map,List.length_range]
  refine ⟨_,rfl,pb,rfl,⟨_,SqL.of fb⟩,q_d (xs:=(bxE A1).map V.int) (fun k ys J'=>Same H18 J'/\∃ rs:List Addr,ys=rs.map V.ref/\Paired (fun r (p:Int×Int)=>J' r=some (.tup [.int p.1,.int p.2])) rs (gI ((bxK A1).take k))) ⟨Same.refl _,[],rfl,.nil⟩ ?_ ?_ ?_ ?_⟩
  ·rintro k ys J' _ ⟨s',_⟩
   exact SqL.of (s' _ _ fb)
  ·rintro k ys J' hk ⟨_,rs,rfl,hp⟩
   have:=hp.length
   rw [gI_len,List.length_take] at this
   rw [List.length_map]
   exact w_r (by lia)
  ·rintro k v ys J' hv ⟨s',rs,rfl,hp⟩
   have hk:k<A1.boxes.length:=by have:=(List.getElem?_eq_some_iff.mp hv).1;lia
   rw [List.getElem?_map,eget k hk] at hv
   obtain rfl:=(Option.some.inj hv).symm
   unfold tYes
   refine iteT ⟨_,rfl,_,rfl,_,rfl,_,_,rfl,.inl ⟨_,SqL.of (s' _ _ fb),rfl⟩,_,_,rfl,rfl,.inl ⟨by decide,by decide⟩,_,_,rfl,rfl,zl2,fun t ht=>?_⟩
   have ev:((2*(1+A1.ins+k):Nat):Int)+2*((((bxE A1).map V.int).length:Nat):Int)=((2*(1+A1.ins+k)+2*A1.boxes.length:Nat):Int):=by rw [bl2];lia
   have v1:=z_f ht (.tup [.int ((2*(1+A1.ins+k):Nat):Int),.int (((2*(1+A1.ins+k):Nat):Int)+2*((((bxE A1).map V.int).length:Nat):Int))])
   refine ⟨s'.trans v1,rs++[t],by rw [List.map_append];rfl,?_⟩
   rw [u_m (kget k hk)]
   unfold gI
   rw [List.map_append]
   refine x_u (R:=fun r (p:Int×Int)=>(upd J' t (.tup [.int ((2*(1+A1.ins+k):Nat):Int),.int (((2*(1+A1.ins+k):Nat):Int)+2*((((bxE A1).map V.int).length:Nat):Int))])) r=some (.tup [.int p.1,.int p.2])) ?_ (z_t (fun _ _ e=>v1 _ _ e) hp)
   show (upd J' t _) t=some (.tup [.int ((2*(1+A1.ins+k):Nat):Int),.int ((2*(1+A1.ins+k)+2*A1.boxes.length:Nat):Int)])
   rw [z_d,ev]
  rintro ys J4 ⟨s4',rs,rfl,hpp⟩ pp hpp0
  rw [bl2,List.take_of_length_le (by rw [kl];exact Nat.le_refl _)] at hpp
  have PP:=PrsR.mk hpp hpp0
  have u2:=s4'.trans (z_f hpp0 (.lst (rs.map V.ref)))
  dsimp only [gName]
  generalize upd J4 pp (.lst (rs.map V.ref))=H19 at PP u2 ⊢
  have u12:=u1.trans u2
  have hA19:=hA17.same u12
  have hB19:=hB17.same u12
  have hC19:=hC17.same u12
  have hD19:=hD17.same u12
  have fk19:=u12 _ _ fk17
  have s019:=s017.trans u12
  have hBx19:=hBx17.same u12
  have fb19:=u2 _ _ fb
  clear hA17 hB17 hC17 hD17 fk17 s017 u12 u1 u2 s4' hpp hBx17 fb
  have wget:∀ k (pb:Int×Int),A1.boxes[k]? = some pb->(bxW A1 (bxE A1)).boxes[k]? = some (pb.1,((2*(1+A1.ins+k):Nat):Int)):=fun k p0 h=>by
   show (List.map _ (List.range A1.boxes.length))[k]? = _
   rw [List.getElem?_map,List.getElem?_range (List.getElem?_eq_some_iff.mp h).1]
   show some ((A1.boxes.getD k (0,0)).1,((2*(1+A1.ins+k):Nat):Int))=_
   rw [List.getD_eq_getElem?_getD,h]
   rfl
  have wl:(bxW A1 (bxE A1)).boxes.length=A1.boxes.length:=w_d
  refine ⟨_,rfl,w,_,_,_,rfl,rfl,SqT.of hA19.w,rfl,_,rfl,w,_,_,_,rfl,rfl,SqT.of hA19.w,rfl,b,rfl,⟨_,SqL.of hBx19.1⟩,l_d (xs:=bs.map V.ref) (fun k ys J'=>Same H19 J'/\∃ rs:List Addr,ys=rs.map V.ref/\Paired (fun r (p:Int×Int)=>J' r=some (.tup [.int p.1,.int p.2])) rs ((bxW A1 (bxE A1)).boxes.take k)) ⟨Same.refl _,[],rfl,.nil⟩ ?_ ?_ ?_ ?_⟩
  ·rintro k ys J' _ ⟨s',_⟩
   exact SqL.of (s' _ _ hBx19.1)
  ·rintro k ys J' hk ⟨_,rs',rfl,hp⟩
   have:=hp.length
   rw [List.length_take] at this
   rw [List.length_map] at hk ⊢
   exact w_r (by lia)
  ·rintro k x pn ys J' os hos hx ⟨s',rs',rfl,hp⟩ hpn
   rw [List.getElem?_map] at hx
   obtain ⟨rb,hrb,rfl⟩:=Option.map_eq_some_iff.mp hx
   obtain ⟨pb0,hpb0,hbt⟩:=x_g hBx19.2 hrb
   obtain ⟨q0,q1,rfl⟩:∃ a b,os=[a,b]:=two_ex hos
   have v1:=z_f hpn (.tup [.int (k:Int),.ref rb])
   have sv:=s'.trans v1
   refine ⟨pn,_,rfl,SqT.of z_d,rfl,_,_,rfl,_,_,rfl,rfl,?_⟩
   dsimp only [gName]
   unfold tYes
   refine iteT ⟨_,rfl,rb,_,_,_,rfl,rfl,SqT.of (sv _ _ hbt),rfl,_,rfl,w,_,_,_,rfl,rfl,SqT.of (sv _ _ hA19.w),rfl,_,_,rfl,rfl,_,rfl,_,_,rfl,rfl,_,_,rfl,rfl,.inl ⟨by decide,by decide⟩,zl2,fun t ht=>?_⟩
   have ev:2*(1+(A1.ins:Int)+(k:Int))=((2*(1+A1.ins+k):Nat):Int):=by lia
   dsimp only
   rw [ev]
   have v2:=z_f ht (.tup [.int pb0.1,.int ((2*(1+A1.ins+k):Nat):Int)])
   refine ⟨sv.trans v2,rs'++[t],by rw [List.map_append];rfl,?_⟩
   rw [u_m (wget k pb0 hpb0)]
   refine x_u ?_ (z_t (fun _ _ e=>v2 _ _ (v1 _ _ e)) hp)
   exact z_d
  rintro ys J5 ⟨s5',rsb,rfl,hpb⟩ pbx hpbx
  rw [hbl,List.take_of_length_le (by rw [wl];exact Nat.le_refl _)] at hpb
  have PB:=PrsR.mk hpb hpbx
  have u5:=s5'.trans (z_f hpbx (.lst (rsb.map V.ref)))
  generalize upd J5 pbx (.lst (rsb.map V.ref))=H20 at PB u5 ⊢
  refine ⟨zl0,fun pe hpe=>⟨_,rfl,zl4,fun wb hwb=>?_⟩⟩
  have u6:=z_f hpe (.lst [])
  have u7:=z_f hwb (.tup [.int (A1.ins:Int),.ref pbx,.ref pe,.ref pb])
  have fe:=u7 _ _ (z_d (H:=H20) (a:=pe) (o:=.lst []))
  have fwb:=z_d (H:=upd H20 pe (.lst [])) (a:=wb) (o:=.tup [.int (A1.ins:Int),.ref pbx,.ref pe,.ref pb])
  have u67:=u6.trans u7
  dsimp only [gName]
  generalize upd (upd H20 pe (.lst [])) wb (.tup [.int (A1.ins:Int),.ref pbx,.ref pe,.ref pb])=H21 at fe fwb u67 ⊢
  have u57:=u5.trans u67
  have fb21:=u57 _ _ fb19
  have hW:IsWkA H21 wb pbx pe pb (bxW A1 (bxE A1)):=⟨fwb,⟨rsb,PB.same u67⟩,⟨[],fe,.nil⟩,fb21⟩
  have PP21:=PP.same u57
  have okW:(bxW A1 (bxE A1)).Ok:=m_w okA (fun e h=>h) (by lia)
  have hA21:=hA19.same u57
  have hB21:=hB19.same u57
  have hC21:=hC19.same u57
  have hD21:=hD19.same u57
  have fk21:=u57 _ _ fk19
  have s021:=s019.trans u57
  clear hA19 hB19 hC19 hD19 fk19 s019 u57 u5 u6 u7 u67 PP PB fb19 hBx19 hpb s5'
  have eBB:(!decide (V.str "by" = V.str "by"))=false:=by rw [decide_eq_true rfl];rfl
  have ePA:(!decide (V.str "paper" = V.str "paper"))=false:=by rw [decide_eq_true rfl];rfl
  refine w_c (fun σ J'=>σ=[some (.ref a),some (.int (0+(i:Int)*2)),some (.ref z),some (.ref w),some (.ref w2),some (.ref pk),some od,some (.bl (!decide (Szs A1 B1))),some (.ref w5),some (.ref pb),some (.ref pp),some (.ref wb),x12]/\Same H21 J') (fun D hD=>?_) ?_
  ·refine ⟨_,rfl,_,rfl,_,rfl,zl0,fun y1 hy1=>⟨zl0,fun y2 hy2=>⟨zl0,fun y3 hy3=>⟨zl4,fun y5 hy5=>?_⟩⟩⟩⟩
   have e1:=z_f hy1 (.tup [])
   have e2:=z_f hy2 (.lst [])
   have e3:=z_f hy3 (.tup [])
   have e5:=z_f hy5 (.tup [.ref pp,.ref y1,.ref y2,.ref y3])
   have e15:=e1.trans (e2.trans (e3.trans e5))
   refine ⟨wb,pbx,pe,pb,wb,pbx,pe,pb,_,_,_,rfl,hW.same e15,hW.same e15,okW,okW,fun h=>absurd ⟨rfl,rfl⟩ h,fun _=>⟨y5,bxG A1 id,bxK A1,bxR A1,rfl,m_x (s:=id) okA b8 (fun j h=>h) ⟨pp,y1,y2,y3,z_d,⟨true,rs,e15 _ _ PP21.1,prs_un (PP21.same e15).2⟩,⟨false,[],(e2.trans (e3.trans e5)) _ _ z_d,.nil⟩,⟨true,[],(e3.trans e5) _ _ z_d,.nil⟩,⟨false,[],e5 _ _ z_d,.nil⟩⟩,fun _ J' s'=>⟨rfl,_,rfl,x_f eBB (hD _ _ ⟨rfl,e15.trans s'⟩)⟩,fun h=>absurd ((bx_gal (s:=id) fun j h=>h).mpr fun j _=>rfl) h⟩⟩
  rintro σ J6 ⟨rfl,sJ⟩
  have hW22:=hW.same sJ
  have fb22:=sJ _ _ fb21
  have PP22:=PP21.same sJ
  have hA22:=hA21.same sJ
  have hB22:=hB21.same sJ
  have hC22:=hC21.same sJ
  have hD22:=hD21.same sJ
  have fk22:=sJ _ _ fk21
  have s022:=s021.trans sJ
  clear hW fb21 PP21 hA21 hB21 hC21 hD21 fk21 s021 sJ
  refine ⟨_,rfl,wb,_,_,_,rfl,rfl,SqT.of hW22.w,rfl,_,rfl,wb,_,_,_,rfl,rfl,SqT.of hW22.w,rfl,zl0,fun pe2 hpe2=>?_⟩
  have m1:=z_f hpe2 (.lst [])
  refine ⟨_,rfl,pb,_,rfl,m1 _ _ fb22,fun po hpo=>⟨zl4,fun wt hwt=>?_⟩⟩
  have erev:((bxE A1).map V.int).reverse=(bxS A1 fun j=>A1.boxes.length-1-j).map V.int:=by rw [<-List.map_reverse,bxS_rev]
  rw [erev] at hwt ⊢
  have m2:=z_f hpo (.lst ((bxS A1 fun j=>A1.boxes.length-1-j).map V.int))
  have m3:=z_f hwt (.tup [.int ((bxW A1 (bxE A1)).ins:Int),.ref pbx,.ref pe2,.ref po])
  have m13:=m1.trans (m2.trans m3)
  have fe2:=(m2.trans m3) _ _ (z_d (H:=J6) (a:=pe2) (o:=.lst []))
  have fpo:=m3 _ _ (z_d (H:=upd J6 pe2 (.lst [])) (a:=po) (o:=.lst ((bxS A1 fun j=>A1.boxes.length-1-j).map V.int)))
  have fwt:=z_d (H:=upd (upd J6 pe2 (.lst [])) po (.lst ((bxS A1 fun j=>A1.boxes.length-1-j).map V.int))) (a:=wt) (o:=.tup [.int ((bxW A1 (bxE A1)).ins:Int),.ref pbx,.ref pe2,.ref po])
  dsimp only [gName]
  generalize upd (upd (upd J6 pe2 (.lst [])) po (.lst ((bxS A1 fun j=>A1.boxes.length-1-j).map V.int))) wt (.tup [.int ((bxW A1 (bxE A1)).ins:Int),.ref pbx,.ref pe2,.ref po])=H23 at m13 fe2 fpo fwt ⊢
  have hs:∀ j,j<A1.boxes.length->A1.boxes.length-1-j<A1.boxes.length:=fun j h=>by lia
  have hW23:=hW22.same m13
  have hT:IsWkA H23 wt pbx pe2 po (bxW A1 (bxS A1 fun j=>A1.boxes.length-1-j)):=⟨fwt,hW23.b,⟨[],fe2,.nil⟩,fpo⟩
  have okT:(bxW A1 (bxS A1 fun j=>A1.boxes.length-1-j)).Ok:=m_w okA (fun e h=>m_u hs h) (by rw [u_n];lia)
  have fb23:=m13 _ _ fb22
  have PP23:=PP22.same m13
  refine w_c (fun σ J'=>σ=[some (.ref a),some (.int (0+(i:Int)*2)),some (.ref z),some (.ref w),some (.ref w2),some (.ref pk),some od,some (.bl (!decide (Szs A1 B1))),some (.ref w5),some (.ref pb),some (.ref pp),some (.ref wb),some (.ref wt)]/\Same H23 J') (fun D hD=>?_) ?_
  ·refine ⟨_,rfl,_,_,rfl,.inl ⟨_,SqL.of fb23,rfl⟩,_,_,rfl,rfl,_,rfl,?_⟩
   by_cases c:1<A1.boxes.length
   ·refine v_x (decide_eq_true (by rw [bl2];lia)) ⟨_,rfl,_,rfl,_,rfl,zl0,fun y1 hy1=>⟨zl0,fun y2 hy2=>⟨zl0,fun y3 hy3=>⟨zl4,fun y5 hy5=>?_⟩⟩⟩⟩
    have e1:=z_f hy1 (.lst [])
    have e2:=z_f hy2 (.lst [])
    have e3:=z_f hy3 (.lst [])
    have e5:=z_f hy5 (.tup [.ref pp,.ref y1,.ref y2,.ref y3])
    have e15:=e1.trans (e2.trans (e3.trans e5))
    refine ⟨wb,pbx,pe,pb,wt,pbx,pe2,po,_,_,_,rfl,hW23.same e15,hT.same e15,okW,okT,fun h=>absurd ⟨rfl,by show (bxE A1).length=(bxS A1 _).length;rw [el,u_n]⟩ h,fun _=>⟨y5,bxG A1 _,bxK A1,bxR A1,rfl,m_x okA b8 hs ⟨pp,y1,y2,y3,z_d,⟨true,rs,e15 _ _ PP23.1,prs_un (PP23.same e15).2⟩,⟨true,[],(e2.trans (e3.trans e5)) _ _ z_d,.nil⟩,⟨true,[],(e3.trans e5) _ _ z_d,.nil⟩,⟨true,[],e5 _ _ z_d,.nil⟩⟩,fun h=>?_,fun _ J' s'=>⟨rfl,_,rfl,x_f ePA (hD _ _ ⟨rfl,e15.trans s'⟩)⟩⟩⟩
    have:=(bx_gal hs).mp h 0 (by lia)
    lia
   ·exact x_f (decide_eq_false (by rw [bl2];lia)) (iteF (hD _ _ ⟨rfl,Same.refl _⟩))
  rintro σ J7 ⟨rfl,sJ⟩
  have m7:=m13.trans sJ
  refine ⟨_,rfl,_,rfl,zl2,fun pl2 hpl2=>?_⟩
  have m8:=m7.trans (z_f hpl2 (.lst [.ref w,.ref w2]))
  refine ⟨_,rfl,rEqD.eq _ (RdD.lst (SqL.of z_d) (.cons (hA22.same m8).rd (.cons (hB22.same m8).rd .nil))) (RdD.lst (SqL.of (m8 _ _ fk22)) (.cons (hC22.same m8).rd (.cons (hD22.same m8).rd .nil))) (dWk_two _ _) ⟨_,rfl,iteF ?_⟩⟩
  exact ⟨_,_,_,_,_,_,_,_,_,_,_,_,rfl,s022.trans m8⟩
 ·rintro σ H2 ⟨x1,x2,x3,x4,x5,x6,x7,x8,x9,x10,x11,x12,rfl,s2⟩
  exact q H2
end
theorem all_ok{P:Program}{w:World}{K:PySem.W.Frag}{mg:Str->Option Value}{base:Heap}{A:Ad}(T:Tx w K mg A)(C_bits_of_both:LamAt mg base A.tc_bits_of_both A.tp_bits_of_both)(C_sets_of_both:LamAt mg base A.tc_sets_of_both A.tp_sets_of_both):FnOk P w K mg base CX0 8 A.a_law A.d_law ["_law_script"] (k_s K A.tp_bits_of_both y_h y_j A.tp_sets_of_both y_i y_k):=by
 have G_Classes_init:=t_x (P:=P) (base:=base) T
 have G_Classes_least:=u_u (P:=P) (base:=base) T
 have G_Classes_alike:=u_t (P:=P) (base:=base) T G_Classes_least
 have G_Classes_join:=t_y (P:=P) (base:=base) T G_Classes_least
 have G_NoPaper_init:=t_z (P:=P) (base:=base) T
 have G_now_net:=m_c (P:=P) (base:=base) T
 have G_start_end:=q_n (P:=P) (base:=base) T
 have G_start_net:=q_o (P:=P) (base:=base) T G_start_end
 have G_now_end:=m_b (P:=P) (base:=base) T
 have G_then_end:=p_w (P:=P) (base:=base) T G_now_end
 have G_next_net:=p_v (P:=P) (base:=base) T G_now_end G_then_end
 have G_is_whole:=p_s (P:=P) (base:=base) T
 have G_is_between:=r_b (P:=P) (base:=base) T G_is_whole
 have G_all_stands:=s_y (P:=P) (w:=w) (K:=K) (mg:=mg) (base:=base) (k:=1) (f:=A.a_all_stands) (fd:=A.d_all_stands) (ps:=["many"])
 have G_knots_in:=p_t (P:=P) (base:=base) T
 have G_is_end:=k_c (P:=P) (base:=base) T G_is_between
 have G_is_pair:=m_a (P:=P) (base:=base) T G_is_end
 have G_first_end:=q_k (P:=P) (base:=base) T
 have G_second_end:=r_e (P:=P) (base:=base) T
 have G_beside:=k_b (P:=P) (base:=base) T G_first_end G_second_end
 have G_is_good:=s_y (P:=P) (w:=w) (K:=K) (mg:=mg) (base:=base) (k:=1) (f:=A.a_is_good) (fd:=A.d_is_good) (ps:=["net", "classes", "step"])
 have G_is_step:=s_y (P:=P) (w:=w) (K:=K) (mg:=mg) (base:=base) (k:=1) (f:=A.a_is_step) (fd:=A.d_is_step) (ps:=["net", "classes", "thing"])
 have G_bits_of_both:=s_y (P:=P) (w:=w) (K:=K) (mg:=mg) (base:=base) (k:=1) (f:=A.a_bits_of_both) (fd:=A.d_bits_of_both) (ps:=["net", "classes", "step"])
 have G_both_bits:=s_y (P:=P) (w:=w) (K:=K) (mg:=mg) (base:=base) (k:=1) (f:=A.a_both_bits) (fd:=A.d_both_bits) (ps:=["one", "other"])
 have G_sets_of_both:=s_y (P:=P) (w:=w) (K:=K) (mg:=mg) (base:=base) (k:=1) (f:=A.a_sets_of_both) (fd:=A.d_sets_of_both) (ps:=["net", "classes", "step"])
 have G_both_sets:=s_y (P:=P) (w:=w) (K:=K) (mg:=mg) (base:=base) (k:=1) (f:=A.a_both_sets) (fd:=A.d_both_sets) (ps:=["one", "other"])
 have G_found_of:=s_y (P:=P) (w:=w) (K:=K) (mg:=mg) (base:=base) (k:=1) (f:=A.a_found_of) (fd:=A.d_found_of) (ps:=["net", "classes", "given", "ends", "turned", "both"])
 have G_below:=s_y (P:=P) (w:=w) (K:=K) (mg:=mg) (base:=base) (k:=1) (f:=A.a_below) (fd:=A.d_below) (ps:=["net", "end"])
 have G_classes_of:=r_a (P:=P) (base:=base) T G_Classes_init
 have G_take_steps:=r_f (P:=P) (base:=base) T G_is_good G_Classes_join
 have G_look_starts:=s_n (P:=P) (base:=base) T G_classes_of G_take_steps G_start_net G_Classes_alike G_start_end
 have G_look_nexts:=r_c (P:=P) (base:=base) T G_classes_of G_take_steps G_next_net G_Classes_join G_Classes_alike G_now_end G_then_end
 have G_look_nows:=q_l (P:=P) (base:=base) T G_classes_of G_take_steps G_now_net G_Classes_join G_NoPaper_init G_Classes_alike
 have G_look_paper:=r_d (P:=P) (base:=base) T G_NoPaper_init G_look_starts G_look_nexts G_look_nows G_is_pair G_knots_in
 have G_look_pair:=q_m (P:=P) (base:=base) T
 have G_look_two:=p_u (P:=P) (base:=base) T G_look_pair G_look_paper G_beside G_first_end G_second_end
 have G_L_row:=ok_L_row (P:=P) (base:=base) T
 have G_L_size:=l_z (P:=P) (base:=base) T
 have G_L_work:=k_a (P:=P) (base:=base) T G_L_size
 have G_L_asked:=n_z (P:=P) (base:=base) T G_look_two
 have G_L_copy:=l_y (P:=P) (base:=base) T
 exact ok_law T G_L_row G_L_work G_L_copy G_L_asked
theorem w_u{fd:FuncData}{ns:List Str}(h:∀ a0,bindArgs fd ⟨[a0],[]⟩=pure (ns.zip [a0])):∀ us:List Value,us.length=1->bindArgs fd ⟨us,[]⟩=pure (ns.zip us):=fun us hl=>by
 exact x_q (P:=fun us=>bindArgs fd ⟨us,[]⟩=pure (ns.zip (us))) (fun a0=>l_p (h a0)) us hl
theorem x_b{fd:FuncData}{ns:List Str}(h:∀ a0 a1,bindArgs fd ⟨[a0,a1],[]⟩=pure (ns.zip [a0,a1])):∀ us:List Value,us.length=2->bindArgs fd ⟨us,[]⟩=pure (ns.zip us):=fun us hl=>by
 exact x_q (P:=fun us=>bindArgs fd ⟨us,[]⟩=pure (ns.zip (us))) (fun a0=>x_q (P:=fun us=>bindArgs fd ⟨a0::us,[]⟩=pure (ns.zip (a0::us))) (fun a1=>l_p (h a0 a1))) us hl
theorem y_u{fd:FuncData}{ns:List Str}(h:∀ a0 a1 a2,bindArgs fd ⟨[a0,a1,a2],[]⟩=pure (ns.zip [a0,a1,a2])):∀ us:List Value,us.length=3->bindArgs fd ⟨us,[]⟩=pure (ns.zip us):=fun us hl=>by
 exact x_q (P:=fun us=>bindArgs fd ⟨us,[]⟩=pure (ns.zip (us))) (fun a0=>x_q (P:=fun us=>bindArgs fd ⟨a0::us,[]⟩=pure (ns.zip (a0::us))) (fun a1=>x_q (P:=fun us=>bindArgs fd ⟨a0::a1::us,[]⟩=pure (ns.zip (a0::a1::us))) (fun a2=>l_p (h a0 a1 a2)))) us hl
theorem l_x{fd:FuncData}{ns:List Str}(h:∀ a0 a1 a2 a3,bindArgs fd ⟨[a0,a1,a2,a3],[]⟩=pure (ns.zip [a0,a1,a2,a3])):∀ us:List Value,us.length=4->bindArgs fd ⟨us,[]⟩=pure (ns.zip us):=fun us hl=>by
 exact x_q (P:=fun us=>bindArgs fd ⟨us,[]⟩=pure (ns.zip (us))) (fun a0=>x_q (P:=fun us=>bindArgs fd ⟨a0::us,[]⟩=pure (ns.zip (a0::us))) (fun a1=>x_q (P:=fun us=>bindArgs fd ⟨a0::a1::us,[]⟩=pure (ns.zip (a0::a1::us))) (fun a2=>x_q (P:=fun us=>bindArgs fd ⟨a0::a1::a2::us,[]⟩=pure (ns.zip (a0::a1::a2::us))) (fun a3=>l_p (h a0 a1 a2 a3))))) us hl
theorem of_len6{fd:FuncData}{ns:List Str}(h:∀ a0 a1 a2 a3 a4 a5,bindArgs fd ⟨[a0,a1,a2,a3,a4,a5],[]⟩=pure (ns.zip [a0,a1,a2,a3,a4,a5])):∀ us:List Value,us.length=6->bindArgs fd ⟨us,[]⟩=pure (ns.zip us):=fun us hl=>by
 exact x_q (P:=fun us=>bindArgs fd ⟨us,[]⟩=pure (ns.zip (us))) (fun a0=>x_q (P:=fun us=>bindArgs fd ⟨a0::us,[]⟩=pure (ns.zip (a0::us))) (fun a1=>x_q (P:=fun us=>bindArgs fd ⟨a0::a1::us,[]⟩=pure (ns.zip (a0::a1::us))) (fun a2=>x_q (P:=fun us=>bindArgs fd ⟨a0::a1::a2::us,[]⟩=pure (ns.zip (a0::a1::a2::us))) (fun a3=>x_q (P:=fun us=>bindArgs fd ⟨a0::a1::a2::a3::us,[]⟩=pure (ns.zip (a0::a1::a2::a3::us))) (fun a4=>x_q (P:=fun us=>bindArgs fd ⟨a0::a1::a2::a3::a4::us,[]⟩=pure (ns.zip (a0::a1::a2::a3::a4::us))) (fun a5=>l_p (h a0 a1 a2 a3 a4 a5))))))) us hl
abbrev NI(K:PySem.W.Frag)(n:Str)(f:Addr):Prop:=nsIn K mainGlobals n=some (some (.ref f))
theorem all_mk{w:World}{K:PySem.W.Frag}{h:Heap}{mg:Str->Option Value}{fa:Addr}(X:K.In h)(G:h.Ns mainGlobals mg)(hfa:mg "law" = some (.ref fa))
  {f0 f1 f2 f3 f4 f5 f6 f7 f8 f9 f10 f11 f12 f13 f14 f15 f16 f17 f18 f19 f20 f21 f22 f23 f24 f25 f26 f27 f28 f29 f30 f31 f32 f33 f34 f35 f36 f37 f38 f39 f40 f41:Addr} {d0 d1 d2 d3 d4 d5 d6 d7 d8 d9 d10 d11 d12 d13 d14 d15 d16 d17 d18 d19 d20 d21 d23 d25 d26 d27 d28 d29 d30 d31 d32 d33 d34 d35 d36 d37 d38 d39 d40 d41:FuncData}
  {od22 an22 od24 an24:Option Addr} {sl22 sl24:Array (Option Value)} {oc22 kV22 dc22 pm22 cd22 ct22 oc24 kV24 dc24 pm24 cd24 ct24:Value}
  {C_Classes:Addr} (aC_Classes:nsIn K mainGlobals "Classes" = some (some (.ref C_Classes)))
  {C_ForgeError:Addr} (aC_ForgeError:nsIn K mainGlobals "ForgeError" = some (some (.ref C_ForgeError)))
  {C_NoPlan:Addr} (aC_NoPlan:nsIn K mainGlobals "NoPlan" = some (some (.ref C_NoPlan)))
  {C_NoName:Addr} (aC_NoName:nsIn K mainGlobals "NoName" = some (some (.ref C_NoName)))
  {C_Twice:Addr} (aC_Twice:nsIn K mainGlobals "Twice" = some (some (.ref C_Twice)))
  {C_Never:Addr} (aC_Never:nsIn K mainGlobals "Never" = some (some (.ref C_Never)))
  {C_NoWidth:Addr} (aC_NoWidth:nsIn K mainGlobals "NoWidth" = some (some (.ref C_NoWidth)))
  {C_NoPart:Addr} (aC_NoPart:nsIn K mainGlobals "NoPart" = some (some (.ref C_NoPart)))
  {C_TooMuch:Addr} (aC_TooMuch:nsIn K mainGlobals "TooMuch" = some (some (.ref C_TooMuch)))
  {C_Ring:Addr} (aC_Ring:nsIn K mainGlobals "Ring" = some (some (.ref C_Ring)))
  {C_NoPair:Addr} (aC_NoPair:nsIn K mainGlobals "NoPair" = some (some (.ref C_NoPair)))
  {C_NoPaper:Addr} (aC_NoPaper:nsIn K mainGlobals "NoPaper" = some (some (.ref C_NoPaper)))
  {C_NoWord:Addr} (aC_NoWord:nsIn K mainGlobals "NoWord" = some (some (.ref C_NoWord)))
  {C_NoText:Addr} (aC_NoText:nsIn K mainGlobals "NoText" = some (some (.ref C_NoText)))
  {C_NoRow:Addr} (aC_NoRow:nsIn K mainGlobals "NoRow" = some (some (.ref C_NoRow)))
  (a0:PySem.W.findIn K (.ref C_Classes) "__init__" = some (some (.ref f0))) (i0:isFn K (.ref f0)=true) (F0:Fun K "__init__" "Classes.__init__" y_w f0 d0)
  (a1:PySem.W.findIn K (.ref C_Classes) "least" = some (some (.ref f1))) (i1:isFn K (.ref f1)=true) (F1:Fun K "least" "Classes.least" y_s f1 d1)
  (a2:PySem.W.findIn K (.ref C_Classes) "alike" = some (some (.ref f2))) (i2:isFn K (.ref f2)=true) (F2:Fun K "alike" "Classes.alike" y_r f2 d2)
  (a3:PySem.W.findIn K (.ref C_Classes) "join" = some (some (.ref f3))) (i3:isFn K (.ref f3)=true) (F3:Fun K "join" "Classes.join" y_x f3 d3)
  (a4:PySem.W.findIn K (.ref C_NoPaper) "__init__" = some (some (.ref f4))) (i4:isFn K (.ref f4)=true) (F4:Fun K "__init__" "NoPaper.__init__" y_y f4 d4)
  (a5:NI K "now_net" f5) (F5:Fun K "now_net" "now_net" v_e f5 d5)
  (a6:NI K "start_net" f6) (F6:Fun K "start_net" "start_net" w_b f6 d6)
  (a7:NI K "next_net" f7) (F7:Fun K "next_net" "next_net" w_p f7 d7)
  (a8:NI K "start_end" f8) (F8:Fun K "start_end" "start_end" w_a f8 d8)
  (a9:NI K "now_end" f9) (F9:Fun K "now_end" "now_end" v_d f9 d9)
  (a10:NI K "then_end" f10) (F10:Fun K "then_end" "then_end" w_q f10 d10)
  (a11:NI K "is_whole" f11) (F11:Fun K "is_whole" "is_whole" w_m f11 d11)
  (a12:NI K "is_between" f12) (F12:Fun K "is_between" "is_between" x_i f12 d12)
  (a13:NI K "all_stands" f13) (F13:Fun K "all_stands" "all_stands" w_g f13 d13)
  (a14:NI K "knots_in" f14) (F14:Fun K "knots_in" "knots_in" w_n f14 d14)
  (a15:NI K "is_end" f15) (F15:Fun K "is_end" "is_end" u_i f15 d15)
  (a16:NI K "is_pair" f16) (F16:Fun K "is_pair" "is_pair" v_c f16 d16)
  (a17:NI K "beside" f17) (F17:Fun K "beside" "beside" u_h f17 d17)
  (a18:NI K "first_end" f18) (F18:Fun K "first_end" "first_end" x_x f18 d18)
  (a19:NI K "second_end" f19) (F19:Fun K "second_end" "second_end" x_l f19 d19)
  (a20:NI K "is_good" f20) (F20:Fun K "is_good" "is_good" u_j f20 d20)
  (a21:NI K "is_step" f21) (F21:Fun K "is_step" "is_step" u_k f21 d21)
  (a22:nsIn K mainGlobals "bits_of_both" = some (some (.ref f22))) (l22:K.lookup f22=some ⟨oc22,od22,.func (fnOf "bits_of_both" "bits_of_both" (w_h z_u) (x_n z_u) (z_k z_u) .none kV22 dc22 pm22 an22 cd22 ct22),sl22⟩) (c22:codeIn K cd22 "bits_of_both" = true) (k22:keepIn K (.ref f22)=true)
  (a23:NI K "both_bits" f23) (F23:Fun K "both_bits" "both_bits" w_v f23 d23)
  (a24:nsIn K mainGlobals "sets_of_both" = some (some (.ref f24))) (l24:K.lookup f24=some ⟨oc24,od24,.func (fnOf "sets_of_both" "sets_of_both" (w_h z_v) (x_n z_v) (z_k z_v) .none kV24 dc24 pm24 an24 cd24 ct24),sl24⟩) (c24:codeIn K cd24 "sets_of_both" = true) (k24:keepIn K (.ref f24)=true)
  (a25:NI K "both_sets" f25) (F25:Fun K "both_sets" "both_sets" w_w f25 d25)
  (a26:NI K "found_of" f26) (F26:Fun K "found_of" "found_of" v_l f26 d26)
  (a27:NI K "below" f27) (F27:Fun K "below" "below" r_k f27 d27)
  (a28:NI K "look_paper" f28) (F28:Fun K "look_paper" "look_paper" x_k f28 d28)
  (a29:NI K "look_starts" f29) (F29:Fun K "look_starts" "look_starts" x_e f29 d29)
  (a30:NI K "look_nexts" f30) (F30:Fun K "look_nexts" "look_nexts" x_j f30 d30)
  (a31:NI K "look_nows" f31) (F31:Fun K "look_nows" "look_nows" x_y f31 d31)
  (a32:NI K "classes_of" f32) (F32:Fun K "classes_of" "classes_of" x_h f32 d32)
  (a33:NI K "take_steps" f33) (F33:Fun K "take_steps" "take_steps" x_m f33 d33)
  (a34:NI K "look_pair" f34) (F34:Fun K "look_pair" "look_pair" x_z f34 d34)
  (a35:NI K "look_two" f35) (F35:Fun K "look_two" "look_two" w_o f35 d35)
  (a36:NI K "_law_row" f36) (F36:Fun K "_law_row" "_law_row" s_e f36 d36)
  (a37:NI K "_law_size" f37) (F37:Fun K "_law_size" "_law_size" u_d f37 d37)
  (a38:NI K "_law_work" f38) (F38:Fun K "_law_work" "_law_work" u_e f38 d38)
  (a39:NI K "_law_asked" f39) (F39:Fun K "_law_asked" "_law_asked" v_b f39 d39)
  (a40:NI K "_law_copy" f40) (F40:Fun K "_law_copy" "_law_copy" u_c f40 d40)
  (a41:NI K "law" f41) (F41:Fun K "law" "law" k_k f41 d41)
  (z0:nsIn K mainGlobals "ValueError" = some none)
  (z1:nsIn K mainGlobals "abs" = some none)
  (z2:nsIn K mainGlobals "all" = some none)
  (z3:nsIn K mainGlobals "bool" = some none)
  (z4:nsIn K mainGlobals "enumerate" = some none)
  (z5:nsIn K mainGlobals "int" = some none)
  (z6:nsIn K mainGlobals "isinstance" = some none)
  (z7:nsIn K mainGlobals "len" = some none)
  (z8:nsIn K mainGlobals "list" = some none)
  (z9:nsIn K mainGlobals "max" = some none)
  (z10:nsIn K mainGlobals "min" = some none)
  (z11:nsIn K mainGlobals "range" = some none)
  (z12:nsIn K mainGlobals "reversed" = some none)
  (z13:nsIn K mainGlobals "tuple" = some none)
  (z14:nsIn K mainGlobals "zip" = some none)
  (pg_Classes:plainGet K C_Classes Str.empty=true) (hd_Classes:hasDictIn K C_Classes=true) (po_Classes:plainOver K C_Classes=true) (sa_Classes:PySem.W.findIn K (.ref C_Classes) "__setattr__" = some (some (.builtin "object.__setattr__"))) (mk_Classes:makesIn K C_Classes=true) (kc_Classes:keepIn K (.ref C_Classes)=true)
  (n_Classes_lesser:PySem.W.findIn K (.ref C_Classes) "lesser" = some none)
  (f_x_ForgeError:excK K C_ForgeError bmV=true)
  (f_x_NoPair:excK K C_NoPair (.ref C_ForgeError::bmV)=true)
  (f_q_NoPair:excQ K C_NoPair=true)
  (f_o_NoPaper:excI K C_NoPaper C_ForgeError f4=true)
  (f_ty_NoPaper:typeIn K (.ref f4)=some (.type "function"))
  (f_sa_NoPaper:PySem.W.findIn K (.ref C_NoPaper) "__setattr__" = some (some (.builtin "object.__setattr__")))
  (f_nf_where:PySem.W.findIn K (.ref C_NoPaper) "where" = some none)
  (f_nf_at:PySem.W.findIn K (.ref C_NoPaper) "at" = some none)
  (f_gm_ForgeError:specialIn K (.ref C_ForgeError) "__getattribute__" = some (some (.builtin "type.__getattribute__"))/\readsIn K C_ForgeError (.type "type")=true/\findCls K (.ref C_ForgeError) (.type "type") "__init__" = some (.val (.builtin "ValueError.__init__")))
  (f_ne_PP:C_NoPaper≠C_NoPair)
  (f_ne_PF:C_ForgeError≠C_NoPair)
  (f_i_val:PySem.W.kitOne K (.ref C_NoPair) (.type "ValueError")=some true)
  (f_i_no1:PySem.W.kitAny K (.ref C_NoPair) [.ref C_Never,.ref C_NoName,.ref C_NoPaper,.ref C_NoPart,.ref C_NoPlan,.ref C_NoRow,.ref C_NoText,.ref C_NoWidth,.ref C_NoWord]=some false)
  (f_i_no2:PySem.W.kitAny K (.ref C_NoPair) [.ref C_Ring,.ref C_TooMuch,.ref C_Twice]=some false)
  {d_MOST_LEAVES:Addr} (g_MOST_LEAVES:nsIn K mainGlobals "MOST_LEAVES" = some (some (.ref d_MOST_LEAVES)))
  {es:Array DictEntry} {n_F:Nat} (l_MOST_LEAVES:K.lookup d_MOST_LEAVES=some ⟨.type "dict",none,.dict es n_F,#[]⟩) (kF:PySem.W.KeysLit w.params es.toList) (lo_F:(d_MOST_LEAVES == sysModules)=false) {h0 h1:Int} {t0 t1 u0 u1:Tok} (eF:es.toList=[⟨h0,.str "stands" t0,.int 6 u0⟩,⟨h1,.str "row" t1,.int 64 u1⟩])
  {t_LOW:Tok} (g_LOW:nsIn K mainGlobals "LOW" = some (some (.str "low" t_LOW)))
  {tc_bits_of_both tp_bits_of_both:Addr} {occ_bits_of_both:Value} {odc_bits_of_both:Option Addr} {vs_bits_of_both:Array Value} {slc_bits_of_both:Array (Option Value)} (ee_bits_of_both:cd22 = .ref tc_bits_of_both) (lc_bits_of_both:K.lookup tc_bits_of_both=some ⟨occ_bits_of_both,odc_bits_of_both,.fields vs_bits_of_both,slc_bits_of_both⟩) (vp_bits_of_both:vs_bits_of_both[11]? = some (.ref tp_bits_of_both))
  {tc_sets_of_both tp_sets_of_both:Addr} {occ_sets_of_both:Value} {odc_sets_of_both:Option Addr} {vs_sets_of_both:Array Value} {slc_sets_of_both:Array (Option Value)} (ee_sets_of_both:cd24 = .ref tc_sets_of_both) (lc_sets_of_both:K.lookup tc_sets_of_both=some ⟨occ_sets_of_both,odc_sets_of_both,.fields vs_sets_of_both,slc_sets_of_both⟩) (vp_sets_of_both:vs_sets_of_both[11]? = some (.ref tp_sets_of_both))
  (ndT:([tp_bits_of_both,tp_sets_of_both]:List Addr).Nodup)
  : ∃ A:Ad,A.a_law=fa/\(∀ (s:Shared) (v:Value),BindsTo s A.d_law ⟨[v],[]⟩ [("_law_script",v)])/\Tx w K mg A/\tabIn K "bits_of_both" = some (A.tc_bits_of_both,A.tp_bits_of_both)/\tabIn K "sets_of_both" = some (A.tc_sets_of_both,A.tp_sets_of_both)/\([A.tp_bits_of_both,A.tp_sets_of_both]:List Addr).Nodup:=by
 have e:=hfa.symm.trans (mg_of X G a41)
 cases e
 have F22:=fun_mk (st:=z_u) l22 c22 k22
 have F24:=fun_mk (st:=z_v) l24 c24 k24
 have hb:∀ (s:Shared) (v:Value),BindsTo s d41 ⟨[v],[]⟩ [("_law_script",v)]:=by
  obtain ⟨_,_,_,_,_,_,_,_,_,rfl,_,_⟩:=F41.ex
  exact fun s v=>.of_eq rfl
 subst ee_bits_of_both
 have tb_bits_of_both:tabIn K "bits_of_both" = some (tc_bits_of_both,tp_bits_of_both):=by
  unfold tabIn
  rw [a22]
  dsimp only
  rw [l22]
  dsimp only
  rw [lc_bits_of_both]
  dsimp only
  rw [vp_bits_of_both]
 subst ee_sets_of_both
 have tb_sets_of_both:tabIn K "sets_of_both" = some (tc_sets_of_both,tp_sets_of_both):=by
  unfold tabIn
  rw [a24]
  dsimp only
  rw [l24]
  dsimp only
  rw [lc_sets_of_both]
  dsimp only
  rw [vp_sets_of_both]
 refine ⟨⟨f0,d0,f1,d1,f2,d2,f3,d3,f4,d4,f5,d5,f6,d6,f7,d7,f8,d8,f9,d9,f10,d10,f11,d11,f12,d12,f13,d13,f14,d14,f15,d15,f16,d16,f17,d17,f18,d18,f19,d19,f20,d20,f21,d21,f22,fnOf "bits_of_both" "bits_of_both" (w_h z_u) (x_n z_u) (z_k z_u) .none kV22 dc22 pm22 an22 (.ref tc_bits_of_both) ct22,f23,d23,f24,fnOf "sets_of_both" "sets_of_both" (w_h z_v) (x_n z_v) (z_k z_v) .none kV24 dc24 pm24 an24 (.ref tc_sets_of_both) ct24,f25,d25,f26,d26,f27,d27,f28,d28,f29,d29,f30,d30,f31,d31,f32,d32,f33,d33,f34,d34,f35,d35,f36,d36,f37,d37,f38,d38,f39,d39,f40,d40,fa,d41,d_MOST_LEAVES,C_Classes,C_ForgeError,C_NoPlan,C_NoName,C_Twice,C_Never,C_NoWidth,C_NoPart,C_TooMuch,C_Ring,C_NoPair,C_NoPaper,C_NoWord,C_NoText,C_NoRow,tc_bits_of_both,tp_bits_of_both,tc_sets_of_both,tp_sets_of_both⟩,rfl,hb,?_,tb_bits_of_both,tb_sets_of_both,ndT⟩
 exact ⟨mg_none_of X G z0,mg_none_of X G z1,mg_none_of X G z2,mg_none_of X G z3,mg_none_of X G z4,mg_none_of X G z5,mg_none_of X G z6,mg_none_of X G z7,mg_none_of X G z8,mg_none_of X G z9,mg_none_of X G z10,mg_none_of X G z11,mg_none_of X G z12,mg_none_of X G z13,mg_none_of X G z14,mg_of X G g_MOST_LEAVES,⟨[("stands",.int 6),("row",.int 64)],⟨⟨es,n_F,l_MOST_LEAVES,kF,by rw [eF];exact .cons ⟨⟨_,rfl⟩,⟨_,rfl⟩⟩ (.cons ⟨⟨_,rfl⟩,⟨_,rfl⟩⟩ .nil)⟩,lo_F⟩,rfl⟩,⟨_,mg_of X G g_LOW⟩,F0,F0.binds fun _ _ _ _ _ _ us hl=>x_b (fun _ _=>rfl) us hl,⟨mk_Classes,a0,i0,kc_Classes⟩,F1,F1.binds fun _ _ _ _ _ _ us hl=>x_b (fun _ _=>rfl) us hl,⟨a1,i1,F1.kp⟩,F2,F2.binds fun _ _ _ _ _ _ us hl=>y_u (fun _ _ _=>rfl) us hl,⟨a2,i2,F2.kp⟩,F3,F3.binds fun _ _ _ _ _ _ us hl=>y_u (fun _ _ _=>rfl) us hl,⟨a3,i3,F3.kp⟩,F4,F4.binds fun _ _ _ _ _ _ us hl=>y_u (fun _ _ _=>rfl) us hl,F5,F5.binds fun _ _ _ _ _ _ us hl=>w_u (fun _=>rfl) us hl,mg_of X G a5,F6,F6.binds fun _ _ _ _ _ _ us hl=>w_u (fun _=>rfl) us hl,mg_of X G a6,F7,F7.binds fun _ _ _ _ _ _ us hl=>w_u (fun _=>rfl) us hl,mg_of X G a7,F8,F8.binds fun _ _ _ _ _ _ us hl=>x_b (fun _ _=>rfl) us hl,mg_of X G a8,F9,F9.binds fun _ _ _ _ _ _ us hl=>x_b (fun _ _=>rfl) us hl,mg_of X G a9,F10,F10.binds fun _ _ _ _ _ _ us hl=>x_b (fun _ _=>rfl) us hl,mg_of X G a10,F11,F11.binds fun _ _ _ _ _ _ us hl=>w_u (fun _=>rfl) us hl,mg_of X G a11,F12,F12.binds fun _ _ _ _ _ _ us hl=>y_u (fun _ _ _=>rfl) us hl,mg_of X G a12,F13,F13.binds fun _ _ _ _ _ _ us hl=>w_u (fun _=>rfl) us hl,mg_of X G a13,F14,F14.binds fun _ _ _ _ _ _ us hl=>w_u (fun _=>rfl) us hl,mg_of X G a14,F15,F15.binds fun _ _ _ _ _ _ us hl=>x_b (fun _ _=>rfl) us hl,mg_of X G a15,F16,F16.binds fun _ _ _ _ _ _ us hl=>x_b (fun _ _=>rfl) us hl,mg_of X G a16,F17,F17.binds fun _ _ _ _ _ _ us hl=>x_b (fun _ _=>rfl) us hl,mg_of X G a17,F18,F18.binds fun _ _ _ _ _ _ us hl=>y_u (fun _ _ _=>rfl) us hl,mg_of X G a18,F19,F19.binds fun _ _ _ _ _ _ us hl=>y_u (fun _ _ _=>rfl) us hl,mg_of X G a19,F20,F20.binds fun _ _ _ _ _ _ us hl=>y_u (fun _ _ _=>rfl) us hl,mg_of X G a20,F21,F21.binds fun _ _ _ _ _ _ us hl=>y_u (fun _ _ _=>rfl) us hl,mg_of X G a21,F22,F22.binds fun _ _ _ _ _ _ us hl=>y_u (fun _ _ _=>rfl) us hl,mg_of X G a22,F23,F23.binds fun _ _ _ _ _ _ us hl=>x_b (fun _ _=>rfl) us hl,mg_of X G a23,F24,F24.binds fun _ _ _ _ _ _ us hl=>y_u (fun _ _ _=>rfl) us hl,mg_of X G a24,F25,F25.binds fun _ _ _ _ _ _ us hl=>x_b (fun _ _=>rfl) us hl,mg_of X G a25,F26,F26.binds fun _ _ _ _ _ _ us hl=>of_len6 (fun _ _ _ _ _ _=>rfl) us hl,mg_of X G a26,F27,F27.binds fun _ _ _ _ _ _ us hl=>x_b (fun _ _=>rfl) us hl,mg_of X G a27,F28,F28.binds fun _ _ _ _ _ _ us hl=>y_u (fun _ _ _=>rfl) us hl,mg_of X G a28,F29,F29.binds fun _ _ _ _ _ _ us hl=>y_u (fun _ _ _=>rfl) us hl,mg_of X G a29,F30,F30.binds fun _ _ _ _ _ _ us hl=>y_u (fun _ _ _=>rfl) us hl,mg_of X G a30,F31,F31.binds fun _ _ _ _ _ _ us hl=>l_x (fun _ _ _ _=>rfl) us hl,mg_of X G a31,F32,F32.binds fun _ _ _ _ _ _ us hl=>w_u (fun _=>rfl) us hl,mg_of X G a32,F33,F33.binds fun _ _ _ _ _ _ us hl=>l_x (fun _ _ _ _=>rfl) us hl,mg_of X G a33,F34,F34.binds fun _ _ _ _ _ _ us hl=>x_b (fun _ _=>rfl) us hl,mg_of X G a34,F35,F35.binds fun _ _ _ _ _ _ us hl=>y_u (fun _ _ _=>rfl) us hl,mg_of X G a35,F36,F36.binds fun _ _ _ _ _ _ us hl=>y_u (fun _ _ _=>rfl) us hl,mg_of X G a36,F37,F37.binds fun _ _ _ _ _ _ us hl=>x_b (fun _ _=>rfl) us hl,mg_of X G a37,F38,F38.binds fun _ _ _ _ _ _ us hl=>x_b (fun _ _=>rfl) us hl,mg_of X G a38,F39,F39.binds fun _ _ _ _ _ _ us hl=>y_u (fun _ _ _=>rfl) us hl,mg_of X G a39,F40,F40.binds fun _ _ _ _ _ _ us hl=>w_u (fun _=>rfl) us hl,mg_of X G a40,F41,F41.binds fun _ _ _ _ _ _ us hl=>w_u (fun _=>rfl) us hl,mg_of X G a41,⟨pg_Classes,hd_Classes,po_Classes,sa_Classes⟩,mg_of X G aC_Classes,n_Classes_lesser,rfl,rfl,mg_of X G aC_ForgeError,mg_of X G aC_NoPlan,mg_of X G aC_NoName,mg_of X G aC_Twice,mg_of X G aC_Never,mg_of X G aC_NoWidth,mg_of X G aC_NoPart,mg_of X G aC_TooMuch,mg_of X G aC_Ring,mg_of X G aC_NoPair,mg_of X G aC_NoPaper,mg_of X G aC_NoWord,mg_of X G aC_NoText,mg_of X G aC_NoRow,f_x_ForgeError,f_x_NoPair,f_q_NoPair,f_o_NoPaper,f_ty_NoPaper,f_sa_NoPaper,f_nf_where,f_nf_at,f_gm_ForgeError,f_ne_PP,f_ne_PF,f_i_val,f_i_no1,f_i_no2⟩
theorem walk{l:PySem.W.OpenLaw}{q:Program}{loose:List Str}{XP:(Str->Option Value)->Heap->Prop}{YP:World->Heap->Prop}{d:DefRec}{K:Params->PySem.W.Frag}(hn:l.most=some 63)(hdf:d.params.defaults=[])(hnm:d.name = "law")
  (hY:∀ (w:World) (h:Heap),YP w h->(K w.params).In h) (hNo:∀ w:World,noTabs (K w.params)=true) (hr_bits_of_both:∃ d,(PyProof.Rows.recsOf q).find? (fun e=>e.name == ("bits_of_both" : Str))=some d) (hr_sets_of_both:∃ d,(PyProof.Rows.recsOf q).find? (fun e=>e.name == ("sets_of_both" : Str))=some d)
  (F:∀ (w:World) (mg:Str->Option Value) (fa:Addr) (h:Heap),(K w.params).In h->h.Ns mainGlobals mg->mg "law" = some (.ref fa) ->
   ∃ A:Ad,A.a_law=fa/\(∀ (s:Shared) (v:Value),BindsTo s A.d_law ⟨[v],[]⟩ [("_law_script",v)])/\Tx w (K w.params) mg A/\tabIn (K w.params) "bits_of_both" = some (A.tc_bits_of_both,A.tp_bits_of_both)/\tabIn (K w.params) "sets_of_both" = some (A.tc_sets_of_both,A.tp_sets_of_both)/\([A.tp_bits_of_both,A.tp_sets_of_both]:List Addr).Nodup) :
  PySem.W.WalkO q loose XP YP l.row.toRowW d [] (fun f vs=>PySem.call f vs):=by
 refine L2.walk_ofT (n:=63) (k:=8) (x := "_law_script") hn (by decide) hdf ⟨rfl,by decide,by decide⟩ hY (fun w mg mb ls mean fa h k1 k2 TT k3=>?_)
 obtain ⟨A,rfl,hb,T,tb_bits_of_both,tb_sets_of_both,nd⟩:=F w mg fa h k1 k2 (by rw [<-hnm];exact k3)
 refine ⟨A.d_law,[(A.tc_bits_of_both,A.tp_bits_of_both,y_h,y_j),(A.tc_sets_of_both,A.tp_sets_of_both,y_i,y_k)],(k_s (K w.params) A.tp_bits_of_both y_h y_j A.tp_sets_of_both y_i y_k),hb,fun t ht=>?_,nd,hNo w,fun base _ _ C=>all_ok T (C (A.tc_bits_of_both,A.tp_bits_of_both,y_h,y_j) (by simp)) (C (A.tc_sets_of_both,A.tp_sets_of_both,y_i,y_k) (by simp)),fun H a ns hl ht hS=>⟨a,ns,rfl,hS,hl,ht (A.tc_bits_of_both,A.tp_bits_of_both,y_h,y_j) (by simp),ht (A.tc_sets_of_both,A.tp_sets_of_both,y_i,y_k) (by simp),fun _=>rfl⟩⟩
 simp only [List.mem_cons,List.not_mem_nil,or_false] at ht
 rcases ht with rfl | rfl
 ·obtain ⟨_,z⟩:=hr_bits_of_both
  exact PySem.W.tab_of TT k1 z tb_bits_of_both
 ·obtain ⟨_,z⟩:=hr_sets_of_both
  exact PySem.W.tab_of TT k1 z tb_sets_of_both
abbrev hS(x:String)(t:Nat):Value:=.str (Str.ofString x) t
abbrev hE(P:Params)(x:String)(t:Nat)(v:Value):DictEntry:=⟨PyData.keyHash P (Str.ofString x),.str (Str.ofString x) t,v⟩
abbrev hF(n q:String)(st:Stmt)(df kd doc pm:Value)(an:Option Addr)(cd ct:Value):Obj:=⟨.type "function",none,.func (fnOf n q (w_h st) (x_n st) (z_k st) df kd doc pm an cd ct),#[]⟩
abbrev hC(n q:String)(t:Nat)(l a k:Int)(r1 r2:Nat)(x y:Value)(r3:Nat)(u:Int)(z:Nat):Obj:=⟨.type "code",none,.fields [hS n t,hS q (t+1),hS "/claim/cut.py" (t+2),.int l 0,.int a 0,.int 0 0,.int 0 0,.int k 0,.ref r1,.bool true,.int 181 0,.ref r2,.none,x,y,.ref r3,.int u 0,.int l 0,hS "/claim/cut.py" z].toArray,#[]⟩
def hK:Params->PySem.W.Frag:=fun P =>
 (nat_lit 2,⟨.none,none,.dict ([]).toArray 0,#[]⟩) ::
 (nat_lit 3,⟨(.type "dict"),none,.dict (hE P "__name__" 165 (hS "law_lampforge_k42_two_works_or_no_pair" 838)::hE P "__doc__" 166 .none::hE P "__package__" 167 .none::hE P "__loader__" 168 (.builtin "__main__.__loader__#opaque")::hE P "__spec__" 169 .none::hE P "__annotations__" 170 (.ref 6)::hE P "__builtins__" 171 (.ref 4)::hE P "__file__" 173 (hS "/claim/cut.py" 172)::hE P "__cached__" 174 .none::hE P "Classes" 246 (.ref 50)::hE P "ForgeError" 266 (.ref 64)::hE P "NoPlan" 282 (.ref 77)::hE P "NoName" 309 (.ref 96)::hE P "Twice" 336 (.ref 115)::hE P "Never" 363 (.ref 134)::hE P "NoWidth" 390 (.ref 153)::hE P "NoPart" 417 (.ref 172)::hE P "TooMuch" 433 (.ref 184)::hE P "Ring" 458 (.ref 203)::hE P "NoPair" 474 (.ref 215)::hE P "NoPaper" 501 (.ref 234)::hE P "NoWord" 517 (.ref 246)::hE P "NoText" 533 (.ref 258)::hE P "NoRow" 549 (.ref 270)::hE P "now_net" 558 (.ref 279)::hE P "start_net" 564 (.ref 284)::hE P "next_net" 570 (.ref 289)::hE P "start_end" 579 (.ref 296)::hE P "now_end" 587 (.ref 303)::hE P "then_end" 596 (.ref 310)::hE P "is_whole" 605 (.ref 317)::hE P "is_between" 614 (.ref 324)::hE P "all_stands" 622 (.ref 329)::hE P "knots_in" 631 (.ref 336)::hE P "is_end" 639 (.ref 343)::hE P "is_pair" 647 (.ref 350)::hE P "beside" 653 (.ref 355)::hE P "first_end" 662 (.ref 362)::hE P "second_end" 671 (.ref 369)::hE P "MOST_LEAVES" 680 (.ref 370)::hE P "LOW" 682 (hS "low" 681)::hE P "is_good" 692 (.ref 377)::hE P "is_step" 698 (.ref 382)::hE P "bits_of_both" 713 (.ref 389)::hE P "both_bits" 721 (.ref 396)::hE P "sets_of_both" 733 (.ref 403)::hE P "both_sets" 743 (.ref 410)::hE P "found_of" 749 (.ref 415)::hE P "below" 757 (.ref 422)::hE P "look_paper" 765 (.ref 427)::hE P "look_starts" 777 (.ref 434)::hE P "look_nexts" 791 (.ref 441)::hE P "look_nows" 804 (.ref 448)::hE P "classes_of" 811 (.ref 455)::hE P "take_steps" 823 (.ref 462)::hE P "look_pair" 831 (.ref 469)::hE P "look_two" 837 (.ref 474)::hE P "_law_row" 854 (.ref 481)::hE P "_law_size" 862 (.ref 488)::hE P "_law_work" 868 (.ref 493)::hE P "_law_asked" 879 (.ref 500)::hE P "_law_copy" 886 (.ref 507)::hE P "law" 892 (.ref 512)::[]).toArray 63,#[]⟩) ::
 (nat_lit 25,hC "__init__" "Classes.__init__" 201 4 2 3 22 23 .none .none 24 204 205) ::
 (nat_lit 26,hF "__init__" "Classes.__init__" y_w .none .none .none (hS "lampforge.classes" 187) none (.ref 25) .none) ::
 (nat_lit 32,hC "least" "Classes.least" 207 7 2 3 27 28 (.ref 29) (.ref 30) 31 215 216) ::
 (nat_lit 33,hF "least" "Classes.least" y_s .none .none .none (hS "lampforge.classes" 187) none (.ref 32) .none) ::
 (nat_lit 39,hC "alike" "Classes.alike" 218 17 3 3 34 35 (.ref 36) (.ref 37) 38 224 225) ::
 (nat_lit 40,hF "alike" "Classes.alike" y_r .none .none .none (hS "lampforge.classes" 187) none (.ref 39) .none) ::
 (nat_lit 46,hC "join" "Classes.join" 227 20 3 3 41 42 (.ref 43) (.ref 44) 45 235 236) ::
 (nat_lit 47,hF "join" "Classes.join" y_x .none .none .none (hS "lampforge.classes" 187) none (.ref 46) .none) ::
 (nat_lit 48,⟨(.type "tuple"),none,.seq [(hS "lesser" 238)].toArray 0,#[]⟩) ::
 (nat_lit 49,⟨(.type "dict"),none,.dict (hE P "__module__" 196 (hS "lampforge.classes" 187)::hE P "__firstlineno__" 200 (.int 2 199)::hE P "__init__" 206 (.ref 26)::hE P "least" 217 (.ref 33)::hE P "alike" 226 (.ref 40)::hE P "join" 237 (.ref 47)::hE P "__static_attributes__" 239 (.ref 48)::hE P "__dict__" 241 (.ref 51)::hE P "__weakref__" 243 (.ref 52)::hE P "__doc__" 244 .none::[]).toArray 4,#[]⟩) ::
 (nat_lit 50,⟨(.type "type"),none,.cls { name := "Classes",bases:=[(.type "object")],mro:=[(.ref 50),(.type "object")],ns:=49,qualname := "Classes",hasDict:=true,subclasses:=[],abstract:=false,hasDel:=false },#[none,none,some (hS "Classes" 189),some (hS "Classes" 197),some (.builtin "object.__new__"),some (.bool true)]⟩) ::
 (nat_lit 51,⟨(.type "getset_descriptor"),none,.fields [(hS "__dict__" 240),(.ref 50),(.builtin "function.__dict__"),(.builtin "function.__dict__#set")].toArray,#[]⟩) ::
 (nat_lit 52,⟨(.type "getset_descriptor"),none,.fields [(hS "__weakref__" 242),(.ref 50),(.builtin "ExceptionGroup.__weakref__"),.none].toArray,#[]⟩) ::
 (nat_lit 62,⟨(.type "tuple"),none,.seq [].toArray 0,#[]⟩) ::
 (nat_lit 63,⟨(.type "dict"),none,.dict (hE P "__module__" 256 (hS "lampforge.errors" 247)::hE P "__firstlineno__" 260 (.int 30 259)::hE P "__static_attributes__" 261 (.ref 62)::hE P "__weakref__" 263 (.ref 65)::hE P "__doc__" 264 .none::[]).toArray 3,#[]⟩) ::
 (nat_lit 64,⟨(.type "type"),none,.cls { name := "ForgeError",bases:=[(.type "ValueError")],mro:=[(.ref 64),(.type "ValueError"),(.type "Exception"),(.type "BaseException"),(.type "object")],ns:=63,qualname := "ForgeError",hasDict:=true,subclasses:=[(.ref 77),(.ref 96),(.ref 115),(.ref 134),(.ref 153),(.ref 172),(.ref 184),(.ref 203),(.ref 215),(.ref 234),(.ref 246),(.ref 258),(.ref 270)],abstract:=false,hasDel:=false },#[some (.ref 55),none,some (hS "ForgeError" 249),some (hS "ForgeError" 257),some (.builtin "ValueError.__new__"),some (.bool true)]⟩) ::
 (nat_lit 65,⟨(.type "getset_descriptor"),none,.fields [(hS "__weakref__" 262),(.ref 64),(.builtin "ExceptionGroup.__weakref__"),.none].toArray,#[]⟩) ::
 (nat_lit 75,⟨(.type "tuple"),none,.seq [].toArray 0,#[]⟩) ::
 (nat_lit 76,⟨(.type "dict"),none,.dict (hE P "__module__" 274 (hS "lampforge.errors" 247)::hE P "__firstlineno__" 278 (.int 32 277)::hE P "__static_attributes__" 279 (.ref 75)::hE P "__doc__" 280 .none::[]).toArray 2,#[]⟩) ::
 (nat_lit 77,⟨(.type "type"),none,.cls { name := "NoPlan",bases:=[(.ref 64)],mro:=[(.ref 77),(.ref 64),(.type "ValueError"),(.type "Exception"),(.type "BaseException"),(.type "object")],ns:=76,qualname := "NoPlan",hasDict:=true,subclasses:=[],abstract:=false,hasDel:=false },#[some (.ref 68),none,some (hS "NoPlan" 267),some (hS "NoPlan" 275),some (.builtin "ValueError.__new__"),some (.bool true)]⟩) ::
 (nat_lit 92,hC "__init__" "NoName.__init__" 295 36 3 3 87 88 (.ref 89) (.ref 90) 91 301 302) ::
 (nat_lit 93,hF "__init__" "NoName.__init__" u_f .none .none .none (hS "lampforge.errors" 247) none (.ref 92) .none) ::
 (nat_lit 94,⟨(.type "tuple"),none,.seq [(hS "name" 304),(hS "part" 305)].toArray 0,#[]⟩) ::
 (nat_lit 95,⟨(.type "dict"),none,.dict (hE P "__module__" 290 (hS "lampforge.errors" 247)::hE P "__firstlineno__" 294 (.int 34 293)::hE P "__init__" 303 (.ref 93)::hE P "__static_attributes__" 306 (.ref 94)::hE P "__doc__" 307 .none::[]).toArray 2,#[]⟩) ::
 (nat_lit 96,⟨(.type "type"),none,.cls { name := "NoName",bases:=[(.ref 64)],mro:=[(.ref 96),(.ref 64),(.type "ValueError"),(.type "Exception"),(.type "BaseException"),(.type "object")],ns:=95,qualname := "NoName",hasDict:=true,subclasses:=[],abstract:=false,hasDel:=false },#[some (.ref 80),none,some (hS "NoName" 283),some (hS "NoName" 291),some (.builtin "ValueError.__new__"),some (.bool true)]⟩) ::
 (nat_lit 111,hC "__init__" "Twice.__init__" 322 42 3 3 106 107 (.ref 108) (.ref 109) 110 328 329) ::
 (nat_lit 112,hF "__init__" "Twice.__init__" u_r .none .none .none (hS "lampforge.errors" 247) none (.ref 111) .none) ::
 (nat_lit 113,⟨(.type "tuple"),none,.seq [(hS "name" 331),(hS "part" 332)].toArray 0,#[]⟩) ::
 (nat_lit 114,⟨(.type "dict"),none,.dict (hE P "__module__" 317 (hS "lampforge.errors" 247)::hE P "__firstlineno__" 321 (.int 40 320)::hE P "__init__" 330 (.ref 112)::hE P "__static_attributes__" 333 (.ref 113)::hE P "__doc__" 334 .none::[]).toArray 2,#[]⟩) ::
 (nat_lit 115,⟨(.type "type"),none,.cls { name := "Twice",bases:=[(.ref 64)],mro:=[(.ref 115),(.ref 64),(.type "ValueError"),(.type "Exception"),(.type "BaseException"),(.type "object")],ns:=114,qualname := "Twice",hasDict:=true,subclasses:=[],abstract:=false,hasDel:=false },#[some (.ref 99),none,some (hS "Twice" 310),some (hS "Twice" 318),some (.builtin "ValueError.__new__"),some (.bool true)]⟩) ::
 (nat_lit 130,hC "__init__" "Never.__init__" 349 48 3 3 125 126 (.ref 127) (.ref 128) 129 355 356) ::
 (nat_lit 131,hF "__init__" "Never.__init__" u_q .none .none .none (hS "lampforge.errors" 247) none (.ref 130) .none) ::
 (nat_lit 132,⟨(.type "tuple"),none,.seq [(hS "name" 358),(hS "part" 359)].toArray 0,#[]⟩) ::
 (nat_lit 133,⟨(.type "dict"),none,.dict (hE P "__module__" 344 (hS "lampforge.errors" 247)::hE P "__firstlineno__" 348 (.int 46 347)::hE P "__init__" 357 (.ref 131)::hE P "__static_attributes__" 360 (.ref 132)::hE P "__doc__" 361 .none::[]).toArray 2,#[]⟩) ::
 (nat_lit 134,⟨(.type "type"),none,.cls { name := "Never",bases:=[(.ref 64)],mro:=[(.ref 134),(.ref 64),(.type "ValueError"),(.type "Exception"),(.type "BaseException"),(.type "object")],ns:=133,qualname := "Never",hasDict:=true,subclasses:=[],abstract:=false,hasDel:=false },#[some (.ref 118),none,some (hS "Never" 337),some (hS "Never" 345),some (.builtin "ValueError.__new__"),some (.bool true)]⟩) ::
 (nat_lit 149,hC "__init__" "NoWidth.__init__" 376 54 3 3 144 145 (.ref 146) (.ref 147) 148 382 383) ::
 (nat_lit 150,hF "__init__" "NoWidth.__init__" v_q .none .none .none (hS "lampforge.errors" 247) none (.ref 149) .none) ::
 (nat_lit 151,⟨(.type "tuple"),none,.seq [(hS "name" 385),(hS "part" 386)].toArray 0,#[]⟩) ::
 (nat_lit 152,⟨(.type "dict"),none,.dict (hE P "__module__" 371 (hS "lampforge.errors" 247)::hE P "__firstlineno__" 375 (.int 52 374)::hE P "__init__" 384 (.ref 150)::hE P "__static_attributes__" 387 (.ref 151)::hE P "__doc__" 388 .none::[]).toArray 2,#[]⟩) ::
 (nat_lit 153,⟨(.type "type"),none,.cls { name := "NoWidth",bases:=[(.ref 64)],mro:=[(.ref 153),(.ref 64),(.type "ValueError"),(.type "Exception"),(.type "BaseException"),(.type "object")],ns:=152,qualname := "NoWidth",hasDict:=true,subclasses:=[],abstract:=false,hasDel:=false },#[some (.ref 137),none,some (hS "NoWidth" 364),some (hS "NoWidth" 372),some (.builtin "ValueError.__new__"),some (.bool true)]⟩) ::
 (nat_lit 168,hC "__init__" "NoPart.__init__" 403 60 3 3 163 164 (.ref 165) (.ref 166) 167 409 410) ::
 (nat_lit 169,hF "__init__" "NoPart.__init__" u_g .none .none .none (hS "lampforge.errors" 247) none (.ref 168) .none) ::
 (nat_lit 170,⟨(.type "tuple"),none,.seq [(hS "name" 412),(hS "part" 413)].toArray 0,#[]⟩) ::
 (nat_lit 171,⟨(.type "dict"),none,.dict (hE P "__module__" 398 (hS "lampforge.errors" 247)::hE P "__firstlineno__" 402 (.int 58 401)::hE P "__init__" 411 (.ref 169)::hE P "__static_attributes__" 414 (.ref 170)::hE P "__doc__" 415 .none::[]).toArray 2,#[]⟩) ::
 (nat_lit 172,⟨(.type "type"),none,.cls { name := "NoPart",bases:=[(.ref 64)],mro:=[(.ref 172),(.ref 64),(.type "ValueError"),(.type "Exception"),(.type "BaseException"),(.type "object")],ns:=171,qualname := "NoPart",hasDict:=true,subclasses:=[],abstract:=false,hasDel:=false },#[some (.ref 156),none,some (hS "NoPart" 391),some (hS "NoPart" 399),some (.builtin "ValueError.__new__"),some (.bool true)]⟩) ::
 (nat_lit 182,⟨(.type "tuple"),none,.seq [].toArray 0,#[]⟩) ::
 (nat_lit 183,⟨(.type "dict"),none,.dict (hE P "__module__" 425 (hS "lampforge.errors" 247)::hE P "__firstlineno__" 429 (.int 64 428)::hE P "__static_attributes__" 430 (.ref 182)::hE P "__doc__" 431 .none::[]).toArray 2,#[]⟩) ::
 (nat_lit 184,⟨(.type "type"),none,.cls { name := "TooMuch",bases:=[(.ref 64)],mro:=[(.ref 184),(.ref 64),(.type "ValueError"),(.type "Exception"),(.type "BaseException"),(.type "object")],ns:=183,qualname := "TooMuch",hasDict:=true,subclasses:=[],abstract:=false,hasDel:=false },#[some (.ref 175),none,some (hS "TooMuch" 418),some (hS "TooMuch" 426),some (.builtin "ValueError.__new__"),some (.bool true)]⟩) ::
 (nat_lit 199,hC "__init__" "Ring.__init__" 446 68 2 3 194 195 (.ref 196) (.ref 197) 198 451 452) ::
 (nat_lit 200,hF "__init__" "Ring.__init__" s_f .none .none .none (hS "lampforge.errors" 247) none (.ref 199) .none) ::
 (nat_lit 201,⟨(.type "tuple"),none,.seq [(hS "names" 454)].toArray 0,#[]⟩) ::
 (nat_lit 202,⟨(.type "dict"),none,.dict (hE P "__module__" 441 (hS "lampforge.errors" 247)::hE P "__firstlineno__" 445 (.int 66 444)::hE P "__init__" 453 (.ref 200)::hE P "__static_attributes__" 455 (.ref 201)::hE P "__doc__" 456 .none::[]).toArray 2,#[]⟩) ::
 (nat_lit 203,⟨(.type "type"),none,.cls { name := "Ring",bases:=[(.ref 64)],mro:=[(.ref 203),(.ref 64),(.type "ValueError"),(.type "Exception"),(.type "BaseException"),(.type "object")],ns:=202,qualname := "Ring",hasDict:=true,subclasses:=[],abstract:=false,hasDel:=false },#[some (.ref 187),none,some (hS "Ring" 434),some (hS "Ring" 442),some (.builtin "ValueError.__new__"),some (.bool true)]⟩) ::
 (nat_lit 213,⟨(.type "tuple"),none,.seq [].toArray 0,#[]⟩) ::
 (nat_lit 214,⟨(.type "dict"),none,.dict (hE P "__module__" 466 (hS "lampforge.errors" 247)::hE P "__firstlineno__" 470 (.int 71 469)::hE P "__static_attributes__" 471 (.ref 213)::hE P "__doc__" 472 .none::[]).toArray 2,#[]⟩) ::
 (nat_lit 215,⟨(.type "type"),none,.cls { name := "NoPair",bases:=[(.ref 64)],mro:=[(.ref 215),(.ref 64),(.type "ValueError"),(.type "Exception"),(.type "BaseException"),(.type "object")],ns:=214,qualname := "NoPair",hasDict:=true,subclasses:=[],abstract:=false,hasDel:=false },#[some (.ref 206),none,some (hS "NoPair" 459),some (hS "NoPair" 467),some (.builtin "ValueError.__new__"),some (.bool true)]⟩) ::
 (nat_lit 230,hC "__init__" "NoPaper.__init__" 487 75 3 3 225 226 (.ref 227) (.ref 228) 229 493 494) ::
 (nat_lit 231,hF "__init__" "NoPaper.__init__" y_y .none .none .none (hS "lampforge.errors" 247) none (.ref 230) .none) ::
 (nat_lit 232,⟨(.type "tuple"),none,.seq [(hS "at" 496),(hS "where" 497)].toArray 0,#[]⟩) ::
 (nat_lit 233,⟨(.type "dict"),none,.dict (hE P "__module__" 482 (hS "lampforge.errors" 247)::hE P "__firstlineno__" 486 (.int 73 485)::hE P "__init__" 495 (.ref 231)::hE P "__static_attributes__" 498 (.ref 232)::hE P "__doc__" 499 .none::[]).toArray 2,#[]⟩) ::
 (nat_lit 234,⟨(.type "type"),none,.cls { name := "NoPaper",bases:=[(.ref 64)],mro:=[(.ref 234),(.ref 64),(.type "ValueError"),(.type "Exception"),(.type "BaseException"),(.type "object")],ns:=233,qualname := "NoPaper",hasDict:=true,subclasses:=[],abstract:=false,hasDel:=false },#[some (.ref 218),none,some (hS "NoPaper" 475),some (hS "NoPaper" 483),some (.builtin "ValueError.__new__"),some (.bool true)]⟩) ::
 (nat_lit 244,⟨(.type "tuple"),none,.seq [].toArray 0,#[]⟩) ::
 (nat_lit 245,⟨(.type "dict"),none,.dict (hE P "__module__" 509 (hS "lampforge.errors" 247)::hE P "__firstlineno__" 513 (.int 79 512)::hE P "__static_attributes__" 514 (.ref 244)::hE P "__doc__" 515 .none::[]).toArray 2,#[]⟩) ::
 (nat_lit 246,⟨(.type "type"),none,.cls { name := "NoWord",bases:=[(.ref 64)],mro:=[(.ref 246),(.ref 64),(.type "ValueError"),(.type "Exception"),(.type "BaseException"),(.type "object")],ns:=245,qualname := "NoWord",hasDict:=true,subclasses:=[],abstract:=false,hasDel:=false },#[some (.ref 237),none,some (hS "NoWord" 502),some (hS "NoWord" 510),some (.builtin "ValueError.__new__"),some (.bool true)]⟩) ::
 (nat_lit 256,⟨(.type "tuple"),none,.seq [].toArray 0,#[]⟩) ::
 (nat_lit 257,⟨(.type "dict"),none,.dict (hE P "__module__" 525 (hS "lampforge.errors" 247)::hE P "__firstlineno__" 529 (.int 81 528)::hE P "__static_attributes__" 530 (.ref 256)::hE P "__doc__" 531 .none::[]).toArray 2,#[]⟩) ::
 (nat_lit 258,⟨(.type "type"),none,.cls { name := "NoText",bases:=[(.ref 64)],mro:=[(.ref 258),(.ref 64),(.type "ValueError"),(.type "Exception"),(.type "BaseException"),(.type "object")],ns:=257,qualname := "NoText",hasDict:=true,subclasses:=[],abstract:=false,hasDel:=false },#[some (.ref 249),none,some (hS "NoText" 518),some (hS "NoText" 526),some (.builtin "ValueError.__new__"),some (.bool true)]⟩) ::
 (nat_lit 268,⟨(.type "tuple"),none,.seq [].toArray 0,#[]⟩) ::
 (nat_lit 269,⟨(.type "dict"),none,.dict (hE P "__module__" 541 (hS "lampforge.errors" 247)::hE P "__firstlineno__" 545 (.int 83 544)::hE P "__static_attributes__" 546 (.ref 268)::hE P "__doc__" 547 .none::[]).toArray 2,#[]⟩) ::
 (nat_lit 270,⟨(.type "type"),none,.cls { name := "NoRow",bases:=[(.ref 64)],mro:=[(.ref 270),(.ref 64),(.type "ValueError"),(.type "Exception"),(.type "BaseException"),(.type "object")],ns:=269,qualname := "NoRow",hasDict:=true,subclasses:=[],abstract:=false,hasDel:=false },#[some (.ref 261),none,some (hS "NoRow" 534),some (hS "NoRow" 542),some (.builtin "ValueError.__new__"),some (.bool true)]⟩) ::
 (nat_lit 278,hC "now_net" "now_net" 552 86 1 3 273 274 (.ref 275) (.ref 276) 277 556 557) ::
 (nat_lit 279,hF "now_net" "now_net" v_e .none .none .none (hS "lampforge.nets" 550) none (.ref 278) .none) ::
 (nat_lit 283,hC "start_net" "start_net" 559 88 1 3 280 281 .none .none 282 562 563) ::
 (nat_lit 284,hF "start_net" "start_net" w_b .none .none .none (hS "lampforge.nets" 550) none (.ref 283) .none) ::
 (nat_lit 288,hC "next_net" "next_net" 565 90 1 3 285 286 .none .none 287 568 569) ::
 (nat_lit 289,hF "next_net" "next_net" w_p .none .none .none (hS "lampforge.nets" 550) none (.ref 288) .none) ::
 (nat_lit 295,hC "start_end" "start_end" 571 94 2 3 290 291 (.ref 292) (.ref 293) 294 577 578) ::
 (nat_lit 296,hF "start_end" "start_end" w_a .none .none .none (hS "lampforge.nets" 550) none (.ref 295) .none) ::
 (nat_lit 302,hC "now_end" "now_end" 580 101 2 3 297 298 (.ref 299) (.ref 300) 301 585 586) ::
 (nat_lit 303,hF "now_end" "now_end" v_d .none .none .none (hS "lampforge.nets" 550) none (.ref 302) .none) ::
 (nat_lit 309,hC "then_end" "then_end" 588 105 2 3 304 305 (.ref 306) (.ref 307) 308 594 595) ::
 (nat_lit 310,hF "then_end" "then_end" w_q .none .none .none (hS "lampforge.nets" 550) none (.ref 309) .none) ::
 (nat_lit 316,hC "is_whole" "is_whole" 599 115 1 3 311 312 (.ref 313) (.ref 314) 315 603 604) ::
 (nat_lit 317,hF "is_whole" "is_whole" w_m .none .none .none (hS "lampforge.words" 597) none (.ref 316) .none) ::
 (nat_lit 323,hC "is_between" "is_between" 606 117 3 3 318 319 (.ref 320) (.ref 321) 322 612 613) ::
 (nat_lit 324,hF "is_between" "is_between" x_i .none .none .none (hS "lampforge.words" 597) none (.ref 323) .none) ::
 (nat_lit 328,hC "all_stands" "all_stands" 617 120 1 3 325 326 .none .none 327 620 621) ::
 (nat_lit 329,hF "all_stands" "all_stands" w_g .none .none .none (hS "lampforge.many" 615) none (.ref 328) .none) ::
 (nat_lit 335,hC "knots_in" "knots_in" 625 131 1 3 330 331 (.ref 332) (.ref 333) 334 629 630) ::
 (nat_lit 336,hF "knots_in" "knots_in" w_n .none .none .none (hS "lampforge.works" 623) none (.ref 335) .none) ::
 (nat_lit 342,hC "is_end" "is_end" 632 133 2 3 337 338 (.ref 339) (.ref 340) 341 637 638) ::
 (nat_lit 343,hF "is_end" "is_end" u_i .none .none .none (hS "lampforge.works" 623) none (.ref 342) .none) ::
 (nat_lit 349,hC "is_pair" "is_pair" 640 135 2 3 344 345 (.ref 346) (.ref 347) 348 645 646) ::
 (nat_lit 350,hF "is_pair" "is_pair" v_c .none .none .none (hS "lampforge.works" 623) none (.ref 349) .none) ::
 (nat_lit 354,hC "beside" "beside" 648 137 2 3 351 352 .none .none 353 651 652) ::
 (nat_lit 355,hF "beside" "beside" u_h .none .none .none (hS "lampforge.works" 623) none (.ref 354) .none) ::
 (nat_lit 361,hC "first_end" "first_end" 654 145 3 3 356 357 (.ref 358) (.ref 359) 360 660 661) ::
 (nat_lit 362,hF "first_end" "first_end" x_x .none .none .none (hS "lampforge.works" 623) none (.ref 361) .none) ::
 (nat_lit 368,hC "second_end" "second_end" 663 149 3 3 363 364 (.ref 365) (.ref 366) 367 669 670) ::
 (nat_lit 369,hF "second_end" "second_end" x_l .none .none .none (hS "lampforge.works" 623) none (.ref 368) .none) ::
 (nat_lit 370,⟨(.type "dict"),none,.dict (hE P "stands" 674 (.int 6 675)::hE P "row" 676 (.int 64 677)::[]).toArray 2,#[]⟩) ::
 (nat_lit 376,hC "is_good" "is_good" 683 158 3 3 371 372 (.ref 373) (.ref 374) 375 690 691) ::
 (nat_lit 377,hF "is_good" "is_good" u_j .none .none .none (hS "lampforge.steps" 672) none (.ref 376) .none) ::
 (nat_lit 381,hC "is_step" "is_step" 693 166 3 3 378 379 .none .none 380 696 697) ::
 (nat_lit 382,hF "is_step" "is_step" u_k .none .none .none (hS "lampforge.steps" 672) none (.ref 381) .none) ::
 (nat_lit 388,hC "bits_of_both" "bits_of_both" 699 176 3 3 383 384 (.ref 385) (.ref 386) 387 711 712) ::
 (nat_lit 389,hF "bits_of_both" "bits_of_both" z_u .none .none .none (hS "lampforge.steps" 672) none (.ref 388) .none) ::
 (nat_lit 395,hC "both_bits" "both_bits" 714 187 2 3 390 391 (.ref 392) (.ref 393) 394 719 720) ::
 (nat_lit 396,hF "both_bits" "both_bits" w_v .none .none .none (hS "lampforge.steps" 672) none (.ref 395) .none) ::
 (nat_lit 402,hC "sets_of_both" "sets_of_both" 722 189 3 3 397 398 (.ref 399) (.ref 400) 401 731 732) ::
 (nat_lit 403,hF "sets_of_both" "sets_of_both" z_v .none .none .none (hS "lampforge.steps" 672) none (.ref 402) .none) ::
 (nat_lit 409,hC "both_sets" "both_sets" 734 197 2 3 404 405 (.ref 406) (.ref 407) 408 741 742) ::
 (nat_lit 410,hF "both_sets" "both_sets" w_w .none .none .none (hS "lampforge.steps" 672) none (.ref 409) .none) ::
 (nat_lit 414,hC "found_of" "found_of" 744 205 6 3 411 412 .none .none 413 747 748) ::
 (nat_lit 415,hF "found_of" "found_of" v_l .none .none .none (hS "lampforge.steps" 672) none (.ref 414) .none) ::
 (nat_lit 421,hC "below" "below" 750 221 2 3 416 417 (.ref 418) (.ref 419) 420 755 756) ::
 (nat_lit 422,hF "below" "below" r_k .none .none .none (hS "lampforge.steps" 672) none (.ref 421) .none) ::
 (nat_lit 426,hC "look_paper" "look_paper" 760 224 3 3 423 424 .none .none 425 763 764) ::
 (nat_lit 427,hF "look_paper" "look_paper" x_k .none .none .none (hS "lampforge.papers" 758) none (.ref 426) .none) ::
 (nat_lit 433,hC "look_starts" "look_starts" 766 234 3 3 428 429 (.ref 430) (.ref 431) 432 775 776) ::
 (nat_lit 434,hF "look_starts" "look_starts" x_e .none .none .none (hS "lampforge.papers" 758) none (.ref 433) .none) ::
 (nat_lit 440,hC "look_nexts" "look_nexts" 778 240 3 3 435 436 (.ref 437) (.ref 438) 439 789 790) ::
 (nat_lit 441,hF "look_nexts" "look_nexts" x_j .none .none .none (hS "lampforge.papers" 758) none (.ref 440) .none) ::
 (nat_lit 447,hC "look_nows" "look_nows" 792 249 4 3 442 443 (.ref 444) (.ref 445) 446 802 803) ::
 (nat_lit 448,hF "look_nows" "look_nows" x_y .none .none .none (hS "lampforge.papers" 758) none (.ref 447) .none) ::
 (nat_lit 454,hC "classes_of" "classes_of" 805 257 1 3 449 450 (.ref 451) (.ref 452) 453 809 810) ::
 (nat_lit 455,hF "classes_of" "classes_of" x_h .none .none .none (hS "lampforge.papers" 758) none (.ref 454) .none) ::
 (nat_lit 461,hC "take_steps" "take_steps" 812 259 4 3 456 457 (.ref 458) (.ref 459) 460 821 822) ::
 (nat_lit 462,hF "take_steps" "take_steps" x_m .none .none .none (hS "lampforge.papers" 758) none (.ref 461) .none) ::
 (nat_lit 468,hC "look_pair" "look_pair" 824 263 2 3 463 464 (.ref 465) (.ref 466) 467 829 830) ::
 (nat_lit 469,hF "look_pair" "look_pair" x_z .none .none .none (hS "lampforge.papers" 758) none (.ref 468) .none) ::
 (nat_lit 473,hC "look_two" "look_two" 832 266 3 3 470 471 .none .none 472 835 836) ::
 (nat_lit 474,hF "look_two" "look_two" w_o .none .none .none (hS "lampforge.papers" 758) none (.ref 473) .none) ::
 (nat_lit 480,hC "_law_row" "_law_row" 840 271 3 3 475 476 (.ref 477) (.ref 478) 479 852 853) ::
 (nat_lit 481,hF "_law_row" "_law_row" s_e .none .none .none (hS "law_lampforge_k42_two_works_or_no_pair" 838) none (.ref 480) .none) ::
 (nat_lit 487,hC "_law_size" "_law_size" 855 287 2 3 482 483 (.ref 484) (.ref 485) 486 860 861) ::
 (nat_lit 488,hF "_law_size" "_law_size" u_d .none .none .none (hS "law_lampforge_k42_two_works_or_no_pair" 838) none (.ref 487) .none) ::
 (nat_lit 492,hC "_law_work" "_law_work" 863 289 2 3 489 490 .none .none 491 866 867) ::
 (nat_lit 493,hF "_law_work" "_law_work" u_e .none .none .none (hS "law_lampforge_k42_two_works_or_no_pair" 838) none (.ref 492) .none) ::
 (nat_lit 499,hC "_law_asked" "_law_asked" 869 299 3 3 494 495 (.ref 496) (.ref 497) 498 877 878) ::
 (nat_lit 500,hF "_law_asked" "_law_asked" v_b .none .none .none (hS "law_lampforge_k42_two_works_or_no_pair" 838) none (.ref 499) .none) ::
 (nat_lit 506,hC "_law_copy" "_law_copy" 880 313 1 3 501 502 (.ref 503) (.ref 504) 505 884 885) ::
 (nat_lit 507,hF "_law_copy" "_law_copy" u_c .none .none .none (hS "law_lampforge_k42_two_works_or_no_pair" 838) none (.ref 506) .none) ::
 (nat_lit 511,hC "law" "law" 887 315 1 3 508 509 .none .none 510 890 891) ::
 (nat_lit 512,hF "law" "law" k_k .none .none .none (hS "law_lampforge_k42_two_works_or_no_pair" 838) none (.ref 511) .none)::[]
def hA:List Addr:=nat_lit 2::nat_lit 3::nat_lit 25::nat_lit 26::nat_lit 32::nat_lit 33::nat_lit 39::nat_lit 40::nat_lit 46::nat_lit 47::nat_lit 48::nat_lit 49::nat_lit 50::nat_lit 51::nat_lit 52::nat_lit 62::nat_lit 63::nat_lit 64::nat_lit 65::nat_lit 75::nat_lit 76::nat_lit 77::nat_lit 92::nat_lit 93::nat_lit 94::nat_lit 95::nat_lit 96::nat_lit 111::nat_lit 112::nat_lit 113::nat_lit 114::nat_lit 115::nat_lit 130::nat_lit 131::nat_lit 132::nat_lit 133::nat_lit 134::nat_lit 149::nat_lit 150::nat_lit 151::nat_lit 152::nat_lit 153::nat_lit 168::nat_lit 169::nat_lit 170::nat_lit 171::nat_lit 172::nat_lit 182::nat_lit 183::nat_lit 184::nat_lit 199::nat_lit 200::nat_lit 201::nat_lit 202::nat_lit 203::nat_lit 213::nat_lit 214::nat_lit 215::nat_lit 230::nat_lit 231::nat_lit 232::nat_lit 233::nat_lit 234::nat_lit 244::nat_lit 245::nat_lit 246::nat_lit 256::nat_lit 257::nat_lit 258::nat_lit 268::nat_lit 269::nat_lit 270::nat_lit 278::nat_lit 279::nat_lit 283::nat_lit 284::nat_lit 288::nat_lit 289::nat_lit 295::nat_lit 296::nat_lit 302::nat_lit 303::nat_lit 309::nat_lit 310::nat_lit 316::nat_lit 317::nat_lit 323::nat_lit 324::nat_lit 328::nat_lit 329::nat_lit 335::nat_lit 336::nat_lit 342::nat_lit 343::nat_lit 349::nat_lit 350::nat_lit 354::nat_lit 355::nat_lit 361::nat_lit 362::nat_lit 368::nat_lit 369::nat_lit 370::nat_lit 376::nat_lit 377::nat_lit 381::nat_lit 382::nat_lit 388::nat_lit 389::nat_lit 395::nat_lit 396::nat_lit 402::nat_lit 403::nat_lit 409::nat_lit 410::nat_lit 414::nat_lit 415::nat_lit 421::nat_lit 422::nat_lit 426::nat_lit 427::nat_lit 433::nat_lit 434::nat_lit 440::nat_lit 441::nat_lit 447::nat_lit 448::nat_lit 454::nat_lit 455::nat_lit 461::nat_lit 462::nat_lit 468::nat_lit 469::nat_lit 473::nat_lit 474::nat_lit 480::nat_lit 481::nat_lit 487::nat_lit 488::nat_lit 492::nat_lit 493::nat_lit 499::nat_lit 500::nat_lit 506::nat_lit 507::nat_lit 511::nat_lit 512::[]
def hV:Program:={ PySem.Challenge.pw_lampforge_k42_two_works_or_no_pair with main:={ PySem.Challenge.pw_lampforge_k42_two_works_or_no_pair.main with body:=[top 1,top 3,top 4,top 5,top 6,top 7,top 8,top 9,top 10,top 11,top 12,top 13,top 14,top 15,top 16,top 18,top 19,top 20,top 21,top 22,top 23,top 25,top 26,top 28,top 30,top 31,top 32,top 33,top 34,top 35,top 37,top 38,top 39,top 40,top 41,top 42,top 43,top 44,top 45,top 46,top 48,top 49,top 50,top 51,top 52,top 53,top 54,top 55,top 57,top 58,top 59,top 60,top 61,top 62] } }
abbrev hL:List Str:=[Str.ofString "MOST_LEAVES"]
theorem hQ:∀ P,hA=(hK P).map (·.1):=fun _=>by kernel_rfl
set_option maxRecDepth 100000 in
set_option maxHeartbeats 0 in
theorem hSaid:PySem.Challenge.rw_lampforge_k42_two_works_or_no_pair.wellSaid=true:=by kernel_rfl
abbrev hR(n q:String)(st:Stmt):Obj:=⟨.none,none,.func { fnOf n q (w_h st) (x_n st) (z_k st) .none .none .none .none none .none .none with globals:=0 },#[]⟩
abbrev hr(n:String)(st:Stmt):Obj:=hR n n st
abbrev yT(xs:List Value):Obj:=⟨.type "tuple",none,.seq xs.toArray 0,#[]⟩
abbrev yN(xs:List Value):Obj:=⟨.none,none,.fields xs.toArray,#[]⟩
def yS:Nat->List String->List Value
 | _,[]=>[]
 | t,x::r=>hS x t::yS (t+1) r
abbrev pP:Program:=PySem.Challenge.pw_lampforge_k42_two_works_or_no_pair
def mrg:Nat->List (Nat×Obj)->List (Nat×Obj)->List Obj
 | n+1,(a,x)::r,(b,y)::s=>match Nat.blt a b with
  | true=>x::mrg n r ((b,y)::s)
  | false=>y::mrg n ((a,x)::r) s
 | n+1,[],(_,y)::s=>y::mrg n [] s
 | n+1,(_,x)::r,[]=>x::mrg n r []
 | _,_,_=>[]
def evs:List Obj->List Obj
 | a::_::r=>a::evs r
 | l=>l
def mkT:Nat->List Obj->PySem.W.BT
 | n+1,x::r=>.node x (mkT n (evs r)) (mkT n (evs r.tail))
 | _,_=>.nil
def dEs:Option Obj->List DictEntry
 | some o=>match o.data with
  | .dict es _=>es.toList
  | _=>[]
 | none=>[]
def fEs:Option Obj->List Value
 | some o=>match o.data with
  | .fields es=>es.toList
  | _=>[]
 | none=>[]
noncomputable def hX:Params->PySem.W.Frag:=fun P =>
 (0,PySem.W.boot_o_0 P) ::
 (1,PySem.W.boot_o_1 P) ::
 (4,PySem.W.boot_o_4 P) ::
 (5,PySem.W.boot_o_5 P) ::
 (6,PySem.W.boot_o_6 P) ::
 (7,PySem.W.boot_o_7 P) ::
 (8,PySem.W.boot_o_8 P) ::
 (9,PySem.W.boot_o_9 P) ::
 (10,PySem.W.boot_o_10 P) ::
 (11,yT []) ::
 (12,yN [(.int 2 0),(.int 0 0),(.ref 20),(.int 30 0),(.int 0 0),(.ref 60),(.int 32 0),(.int 0 0),(.ref 73),(.int 34 0),(.int 0 0),(.ref 85),(.int 40 0),(.int 0 0),(.ref 104),(.int 46 0),(.int 0 0),(.ref 123),(.int 52 0),(.int 0 0),(.ref 142),(.int 58 0),(.int 0 0),(.ref 161),(.int 64 0),(.int 0 0),(.ref 180),(.int 66 0),(.int 0 0),(.ref 192),(.int 71 0),(.int 0 0),(.ref 211),(.int 73 0),(.int 0 0),(.ref 223),(.int 79 0),(.int 0 0),(.ref 242),(.int 81 0),(.int 0 0),(.ref 254),(.int 83 0),(.int 0 0),(.ref 266),(.int 86 0),(.int 0 0),(.ref 278),(.int 88 0),(.int 0 0),(.ref 283),(.int 90 0),(.int 0 0),(.ref 288),(.int 94 0),(.int 0 0),(.ref 295),(.int 101 0),(.int 0 0),(.ref 302),(.int 105 0),(.int 0 0),(.ref 309),(.int 115 0),(.int 0 0),(.ref 316),(.int 117 0),(.int 0 0),(.ref 323),(.int 120 0),(.int 0 0),(.ref 328),(.int 131 0),(.int 0 0),(.ref 335),(.int 133 0),(.int 0 0),(.ref 342),(.int 135 0),(.int 0 0),(.ref 349),(.int 137 0),(.int 0 0),(.ref 354),(.int 145 0),(.int 0 0),(.ref 361),(.int 149 0),(.int 0 0),(.ref 368),(.int 158 0),(.int 0 0),(.ref 376),(.int 166 0),(.int 0 0),(.ref 381),(.int 176 0),(.int 0 0),(.ref 388),(.int 187 0),(.int 0 0),(.ref 395),(.int 189 0),(.int 0 0),(.ref 402),(.int 197 0),(.int 0 0),(.ref 409),(.int 205 0),(.int 0 0),(.ref 414),(.int 221 0),(.int 0 0),(.ref 421),(.int 224 0),(.int 0 0),(.ref 426),(.int 234 0),(.int 0 0),(.ref 433),(.int 240 0),(.int 0 0),(.ref 440),(.int 249 0),(.int 0 0),(.ref 447),(.int 257 0),(.int 0 0),(.ref 454),(.int 259 0),(.int 0 0),(.ref 461),(.int 263 0),(.int 0 0),(.ref 468),(.int 266 0),(.int 0 0),(.ref 473),(.int 271 0),(.int 0 0),(.ref 480),(.int 287 0),(.int 0 0),(.ref 487),(.int 289 0),(.int 0 0),(.ref 492),(.int 299 0),(.int 0 0),(.ref 499),(.int 313 0),(.int 0 0),(.ref 506),(.int 315 0),(.int 0 0),(.ref 511)]) ::
 (13,⟨(.type "code"),none,.fields [(hS "<module>" 182),(hS "<module>" 183),(hS "/claim/cut.py" 184),(.int 1 0),(.int 0 0),(.int 0 0),(.int 0 0),(.int 0 0),(.ref 11),(.bool false),(.int 181 0),(.ref 12),.none,.none,.none,.none,(.int 185 0),(.int 1 0),(hS "/claim/cut.py" 186)].toArray,#[]⟩) ::
 (14,⟨(.type "frame"),none,.plain,#[some (.ref 13),some (.ref 3),some (.ref 3),none,some (hS "__main__" 164),none,some (.ref 0)]⟩) ::
 (15,yT []) ::
 (16,⟨(.type "builtin_function_or_method"),none,.fields [(.builtin "type.__prepare__"),(.type "type")].toArray,#[]⟩) ::
 (17,⟨(.type "dict"),none,.dict (hE P "__module__" 196 (hS "lampforge.classes" 187)::hE P "__qualname__" 198 (hS "Classes" 197)::hE P "__firstlineno__" 200 (.int 2 199)::hE P "__init__" 206 (.ref 26)::hE P "least" 217 (.ref 33)::hE P "alike" 226 (.ref 40)::hE P "join" 237 (.ref 47)::hE P "__static_attributes__" 239 (.ref 48)::[]).toArray 8,#[]⟩) ::
 (18,yT []) ::
 (19,yN [(.int 4 0),(.int 4 0),(.ref 25),(.int 7 0),(.int 4 0),(.ref 32),(.int 17 0),(.int 4 0),(.ref 39),(.int 20 0),(.int 4 0),(.ref 46)]) ::
 (20,⟨(.type "code"),none,.fields [(hS "Classes" 191),(hS "Classes" 192),(hS "/claim/cut.py" 193),(.int 2 0),(.int 0 0),(.int 0 0),(.int 0 0),(.int 0 0),(.ref 18),(.bool false),(.int 181 0),(.ref 19),.none,.none,.none,.none,(.int 194 0),(.int 2 0),(hS "/claim/cut.py" 195)].toArray,#[]⟩) ::
 (21,⟨(.type "frame"),none,.plain,#[some (.ref 20),some (.ref 3),some (.ref 17),none,some (hS "lampforge.classes" 187),none,some (.ref 0)]⟩) ::
 (22,yT []) ::
 (23,yN []) ::
 (24,hR "__init__" "Classes.__init__" y_w) ::
 (27,yT []) ::
 (28,yN []) ::
 (29,yT (yS 210 ["self", "end", "lesser", "way", "passed"])) ::
 (30,yT []) ::
 (31,hR "least" "Classes.least" y_s) ::
 (34,yT []) ::
 (35,yN []) ::
 (36,yT (yS 221 ["self", "one", "other"])) ::
 (37,yT []) ::
 (38,hR "alike" "Classes.alike" y_r) ::
 (41,yT []) ::
 (42,yN []) ::
 (43,yT (yS 230 ["self", "one", "other", "low", "high"])) ::
 (44,yT []) ::
 (45,hR "join" "Classes.join" y_x) ::
 (53,⟨(.type "super"),none,.fields [(.ref 50),(.ref 50),(.ref 50)].toArray,#[]⟩) ::
 (54,⟨(.type "builtin_function_or_method"),none,.fields [(.builtin "object.__init_subclass__"),(.ref 50)].toArray,#[]⟩) ::
 (55,yT [(.type "ValueError")]) ::
 (56,⟨(.type "builtin_function_or_method"),none,.fields [(.builtin "type.__prepare__"),(.type "type")].toArray,#[]⟩) ::
 (57,⟨(.type "dict"),none,.dict (hE P "__module__" 256 (hS "lampforge.errors" 247)::hE P "__qualname__" 258 (hS "ForgeError" 257)::hE P "__firstlineno__" 260 (.int 30 259)::hE P "__static_attributes__" 261 (.ref 62)::[]).toArray 4,#[]⟩) ::
 (58,yT []) ::
 (59,yN []) ::
 (60,⟨(.type "code"),none,.fields [(hS "ForgeError" 251),(hS "ForgeError" 252),(hS "/claim/cut.py" 253),(.int 30 0),(.int 0 0),(.int 0 0),(.int 0 0),(.int 0 0),(.ref 58),(.bool false),(.int 181 0),(.ref 59),.none,.none,.none,.none,(.int 254 0),(.int 30 0),(hS "/claim/cut.py" 255)].toArray,#[]⟩) ::
 (61,⟨(.type "frame"),none,.plain,#[some (.ref 60),some (.ref 3),some (.ref 57),none,some (hS "lampforge.errors" 247),none,some (.ref 0)]⟩) ::
 (66,⟨(.type "super"),none,.fields [(.ref 64),(.ref 64),(.ref 64)].toArray,#[]⟩) ::
 (67,⟨(.type "builtin_function_or_method"),none,.fields [(.builtin "object.__init_subclass__"),(.ref 64)].toArray,#[]⟩) ::
 (68,yT [(.ref 64)]) ::
 (69,⟨(.type "builtin_function_or_method"),none,.fields [(.builtin "type.__prepare__"),(.type "type")].toArray,#[]⟩) ::
 (70,⟨(.type "dict"),none,.dict (hE P "__module__" 274 (hS "lampforge.errors" 247)::hE P "__qualname__" 276 (hS "NoPlan" 275)::hE P "__firstlineno__" 278 (.int 32 277)::hE P "__static_attributes__" 279 (.ref 75)::[]).toArray 4,#[]⟩) ::
 (71,yT []) ::
 (72,yN []) ::
 (73,⟨(.type "code"),none,.fields [(hS "NoPlan" 269),(hS "NoPlan" 270),(hS "/claim/cut.py" 271),(.int 32 0),(.int 0 0),(.int 0 0),(.int 0 0),(.int 0 0),(.ref 71),(.bool false),(.int 181 0),(.ref 72),.none,.none,.none,.none,(.int 272 0),(.int 32 0),(hS "/claim/cut.py" 273)].toArray,#[]⟩) ::
 (74,⟨(.type "frame"),none,.plain,#[some (.ref 73),some (.ref 3),some (.ref 70),none,some (hS "lampforge.errors" 247),none,some (.ref 0)]⟩) ::
 (78,⟨(.type "super"),none,.fields [(.ref 77),(.ref 77),(.ref 77)].toArray,#[]⟩) ::
 (79,⟨(.type "builtin_function_or_method"),none,.fields [(.builtin "object.__init_subclass__"),(.ref 77)].toArray,#[]⟩) ::
 (80,yT [(.ref 64)]) ::
 (81,⟨(.type "builtin_function_or_method"),none,.fields [(.builtin "type.__prepare__"),(.type "type")].toArray,#[]⟩) ::
 (82,⟨(.type "dict"),none,.dict (hE P "__module__" 290 (hS "lampforge.errors" 247)::hE P "__qualname__" 292 (hS "NoName" 291)::hE P "__firstlineno__" 294 (.int 34 293)::hE P "__init__" 303 (.ref 93)::hE P "__static_attributes__" 306 (.ref 94)::[]).toArray 5,#[]⟩) ::
 (83,yT []) ::
 (84,yN [(.int 36 0),(.int 4 0),(.ref 92)]) ::
 (85,⟨(.type "code"),none,.fields [(hS "NoName" 285),(hS "NoName" 286),(hS "/claim/cut.py" 287),(.int 34 0),(.int 0 0),(.int 0 0),(.int 0 0),(.int 0 0),(.ref 83),(.bool false),(.int 181 0),(.ref 84),.none,.none,.none,.none,(.int 288 0),(.int 34 0),(hS "/claim/cut.py" 289)].toArray,#[]⟩) ::
 (86,⟨(.type "frame"),none,.plain,#[some (.ref 85),some (.ref 3),some (.ref 82),none,some (hS "lampforge.errors" 247),none,some (.ref 0)]⟩) ::
 (87,yT []) ::
 (88,yN []) ::
 (89,yT (yS 298 ["self", "part", "name"])) ::
 (90,yT []) ::
 (91,hR "__init__" "NoName.__init__" u_f) ::
 (97,⟨(.type "super"),none,.fields [(.ref 96),(.ref 96),(.ref 96)].toArray,#[]⟩) ::
 (98,⟨(.type "builtin_function_or_method"),none,.fields [(.builtin "object.__init_subclass__"),(.ref 96)].toArray,#[]⟩) ::
 (99,yT [(.ref 64)]) ::
 (100,⟨(.type "builtin_function_or_method"),none,.fields [(.builtin "type.__prepare__"),(.type "type")].toArray,#[]⟩) ::
 (101,⟨(.type "dict"),none,.dict (hE P "__module__" 317 (hS "lampforge.errors" 247)::hE P "__qualname__" 319 (hS "Twice" 318)::hE P "__firstlineno__" 321 (.int 40 320)::hE P "__init__" 330 (.ref 112)::hE P "__static_attributes__" 333 (.ref 113)::[]).toArray 5,#[]⟩) ::
 (102,yT []) ::
 (103,yN [(.int 42 0),(.int 4 0),(.ref 111)]) ::
 (104,⟨(.type "code"),none,.fields [(hS "Twice" 312),(hS "Twice" 313),(hS "/claim/cut.py" 314),(.int 40 0),(.int 0 0),(.int 0 0),(.int 0 0),(.int 0 0),(.ref 102),(.bool false),(.int 181 0),(.ref 103),.none,.none,.none,.none,(.int 315 0),(.int 40 0),(hS "/claim/cut.py" 316)].toArray,#[]⟩) ::
 (105,⟨(.type "frame"),none,.plain,#[some (.ref 104),some (.ref 3),some (.ref 101),none,some (hS "lampforge.errors" 247),none,some (.ref 0)]⟩) ::
 (106,yT []) ::
 (107,yN []) ::
 (108,yT (yS 325 ["self", "part", "name"])) ::
 (109,yT []) ::
 (110,hR "__init__" "Twice.__init__" u_r) ::
 (116,⟨(.type "super"),none,.fields [(.ref 115),(.ref 115),(.ref 115)].toArray,#[]⟩) ::
 (117,⟨(.type "builtin_function_or_method"),none,.fields [(.builtin "object.__init_subclass__"),(.ref 115)].toArray,#[]⟩) ::
 (118,yT [(.ref 64)]) ::
 (119,⟨(.type "builtin_function_or_method"),none,.fields [(.builtin "type.__prepare__"),(.type "type")].toArray,#[]⟩) ::
 (120,⟨(.type "dict"),none,.dict (hE P "__module__" 344 (hS "lampforge.errors" 247)::hE P "__qualname__" 346 (hS "Never" 345)::hE P "__firstlineno__" 348 (.int 46 347)::hE P "__init__" 357 (.ref 131)::hE P "__static_attributes__" 360 (.ref 132)::[]).toArray 5,#[]⟩) ::
 (121,yT []) ::
 (122,yN [(.int 48 0),(.int 4 0),(.ref 130)]) ::
 (123,⟨(.type "code"),none,.fields [(hS "Never" 339),(hS "Never" 340),(hS "/claim/cut.py" 341),(.int 46 0),(.int 0 0),(.int 0 0),(.int 0 0),(.int 0 0),(.ref 121),(.bool false),(.int 181 0),(.ref 122),.none,.none,.none,.none,(.int 342 0),(.int 46 0),(hS "/claim/cut.py" 343)].toArray,#[]⟩) ::
 (124,⟨(.type "frame"),none,.plain,#[some (.ref 123),some (.ref 3),some (.ref 120),none,some (hS "lampforge.errors" 247),none,some (.ref 0)]⟩) ::
 (125,yT []) ::
 (126,yN []) ::
 (127,yT (yS 352 ["self", "part", "name"])) ::
 (128,yT []) ::
 (129,hR "__init__" "Never.__init__" u_q) ::
 (135,⟨(.type "super"),none,.fields [(.ref 134),(.ref 134),(.ref 134)].toArray,#[]⟩) ::
 (136,⟨(.type "builtin_function_or_method"),none,.fields [(.builtin "object.__init_subclass__"),(.ref 134)].toArray,#[]⟩) ::
 (137,yT [(.ref 64)]) ::
 (138,⟨(.type "builtin_function_or_method"),none,.fields [(.builtin "type.__prepare__"),(.type "type")].toArray,#[]⟩) ::
 (139,⟨(.type "dict"),none,.dict (hE P "__module__" 371 (hS "lampforge.errors" 247)::hE P "__qualname__" 373 (hS "NoWidth" 372)::hE P "__firstlineno__" 375 (.int 52 374)::hE P "__init__" 384 (.ref 150)::hE P "__static_attributes__" 387 (.ref 151)::[]).toArray 5,#[]⟩) ::
 (140,yT []) ::
 (141,yN [(.int 54 0),(.int 4 0),(.ref 149)]) ::
 (142,⟨(.type "code"),none,.fields [(hS "NoWidth" 366),(hS "NoWidth" 367),(hS "/claim/cut.py" 368),(.int 52 0),(.int 0 0),(.int 0 0),(.int 0 0),(.int 0 0),(.ref 140),(.bool false),(.int 181 0),(.ref 141),.none,.none,.none,.none,(.int 369 0),(.int 52 0),(hS "/claim/cut.py" 370)].toArray,#[]⟩) ::
 (143,⟨(.type "frame"),none,.plain,#[some (.ref 142),some (.ref 3),some (.ref 139),none,some (hS "lampforge.errors" 247),none,some (.ref 0)]⟩) ::
 (144,yT []) ::
 (145,yN []) ::
 (146,yT (yS 379 ["self", "part", "name"])) ::
 (147,yT []) ::
 (148,hR "__init__" "NoWidth.__init__" v_q) ::
 (154,⟨(.type "super"),none,.fields [(.ref 153),(.ref 153),(.ref 153)].toArray,#[]⟩) ::
 (155,⟨(.type "builtin_function_or_method"),none,.fields [(.builtin "object.__init_subclass__"),(.ref 153)].toArray,#[]⟩) ::
 (156,yT [(.ref 64)]) ::
 (157,⟨(.type "builtin_function_or_method"),none,.fields [(.builtin "type.__prepare__"),(.type "type")].toArray,#[]⟩) ::
 (158,⟨(.type "dict"),none,.dict (hE P "__module__" 398 (hS "lampforge.errors" 247)::hE P "__qualname__" 400 (hS "NoPart" 399)::hE P "__firstlineno__" 402 (.int 58 401)::hE P "__init__" 411 (.ref 169)::hE P "__static_attributes__" 414 (.ref 170)::[]).toArray 5,#[]⟩) ::
 (159,yT []) ::
 (160,yN [(.int 60 0),(.int 4 0),(.ref 168)]) ::
 (161,⟨(.type "code"),none,.fields [(hS "NoPart" 393),(hS "NoPart" 394),(hS "/claim/cut.py" 395),(.int 58 0),(.int 0 0),(.int 0 0),(.int 0 0),(.int 0 0),(.ref 159),(.bool false),(.int 181 0),(.ref 160),.none,.none,.none,.none,(.int 396 0),(.int 58 0),(hS "/claim/cut.py" 397)].toArray,#[]⟩) ::
 (162,⟨(.type "frame"),none,.plain,#[some (.ref 161),some (.ref 3),some (.ref 158),none,some (hS "lampforge.errors" 247),none,some (.ref 0)]⟩) ::
 (163,yT []) ::
 (164,yN []) ::
 (165,yT (yS 406 ["self", "part", "name"])) ::
 (166,yT []) ::
 (167,hR "__init__" "NoPart.__init__" u_g) ::
 (173,⟨(.type "super"),none,.fields [(.ref 172),(.ref 172),(.ref 172)].toArray,#[]⟩) ::
 (174,⟨(.type "builtin_function_or_method"),none,.fields [(.builtin "object.__init_subclass__"),(.ref 172)].toArray,#[]⟩) ::
 (175,yT [(.ref 64)]) ::
 (176,⟨(.type "builtin_function_or_method"),none,.fields [(.builtin "type.__prepare__"),(.type "type")].toArray,#[]⟩) ::
 (177,⟨(.type "dict"),none,.dict (hE P "__module__" 425 (hS "lampforge.errors" 247)::hE P "__qualname__" 427 (hS "TooMuch" 426)::hE P "__firstlineno__" 429 (.int 64 428)::hE P "__static_attributes__" 430 (.ref 182)::[]).toArray 4,#[]⟩) ::
 (178,yT []) ::
 (179,yN []) ::
 (180,⟨(.type "code"),none,.fields [(hS "TooMuch" 420),(hS "TooMuch" 421),(hS "/claim/cut.py" 422),(.int 64 0),(.int 0 0),(.int 0 0),(.int 0 0),(.int 0 0),(.ref 178),(.bool false),(.int 181 0),(.ref 179),.none,.none,.none,.none,(.int 423 0),(.int 64 0),(hS "/claim/cut.py" 424)].toArray,#[]⟩) ::
 (181,⟨(.type "frame"),none,.plain,#[some (.ref 180),some (.ref 3),some (.ref 177),none,some (hS "lampforge.errors" 247),none,some (.ref 0)]⟩) ::
 (185,⟨(.type "super"),none,.fields [(.ref 184),(.ref 184),(.ref 184)].toArray,#[]⟩) ::
 (186,⟨(.type "builtin_function_or_method"),none,.fields [(.builtin "object.__init_subclass__"),(.ref 184)].toArray,#[]⟩) ::
 (187,yT [(.ref 64)]) ::
 (188,⟨(.type "builtin_function_or_method"),none,.fields [(.builtin "type.__prepare__"),(.type "type")].toArray,#[]⟩) ::
 (189,⟨(.type "dict"),none,.dict (hE P "__module__" 441 (hS "lampforge.errors" 247)::hE P "__qualname__" 443 (hS "Ring" 442)::hE P "__firstlineno__" 445 (.int 66 444)::hE P "__init__" 453 (.ref 200)::hE P "__static_attributes__" 455 (.ref 201)::[]).toArray 5,#[]⟩) ::
 (190,yT []) ::
 (191,yN [(.int 68 0),(.int 4 0),(.ref 199)]) ::
 (192,⟨(.type "code"),none,.fields [(hS "Ring" 436),(hS "Ring" 437),(hS "/claim/cut.py" 438),(.int 66 0),(.int 0 0),(.int 0 0),(.int 0 0),(.int 0 0),(.ref 190),(.bool false),(.int 181 0),(.ref 191),.none,.none,.none,.none,(.int 439 0),(.int 66 0),(hS "/claim/cut.py" 440)].toArray,#[]⟩) ::
 (193,⟨(.type "frame"),none,.plain,#[some (.ref 192),some (.ref 3),some (.ref 189),none,some (hS "lampforge.errors" 247),none,some (.ref 0)]⟩) ::
 (194,yT []) ::
 (195,yN []) ::
 (196,yT (yS 449 ["self", "names"])) ::
 (197,yT []) ::
 (198,hR "__init__" "Ring.__init__" s_f) ::
 (204,⟨(.type "super"),none,.fields [(.ref 203),(.ref 203),(.ref 203)].toArray,#[]⟩) ::
 (205,⟨(.type "builtin_function_or_method"),none,.fields [(.builtin "object.__init_subclass__"),(.ref 203)].toArray,#[]⟩) ::
 (206,yT [(.ref 64)]) ::
 (207,⟨(.type "builtin_function_or_method"),none,.fields [(.builtin "type.__prepare__"),(.type "type")].toArray,#[]⟩) ::
 (208,⟨(.type "dict"),none,.dict (hE P "__module__" 466 (hS "lampforge.errors" 247)::hE P "__qualname__" 468 (hS "NoPair" 467)::hE P "__firstlineno__" 470 (.int 71 469)::hE P "__static_attributes__" 471 (.ref 213)::[]).toArray 4,#[]⟩) ::
 (209,yT []) ::
 (210,yN []) ::
 (211,⟨(.type "code"),none,.fields [(hS "NoPair" 461),(hS "NoPair" 462),(hS "/claim/cut.py" 463),(.int 71 0),(.int 0 0),(.int 0 0),(.int 0 0),(.int 0 0),(.ref 209),(.bool false),(.int 181 0),(.ref 210),.none,.none,.none,.none,(.int 464 0),(.int 71 0),(hS "/claim/cut.py" 465)].toArray,#[]⟩) ::
 (212,⟨(.type "frame"),none,.plain,#[some (.ref 211),some (.ref 3),some (.ref 208),none,some (hS "lampforge.errors" 247),none,some (.ref 0)]⟩) ::
 (216,⟨(.type "super"),none,.fields [(.ref 215),(.ref 215),(.ref 215)].toArray,#[]⟩) ::
 (217,⟨(.type "builtin_function_or_method"),none,.fields [(.builtin "object.__init_subclass__"),(.ref 215)].toArray,#[]⟩) ::
 (218,yT [(.ref 64)]) ::
 (219,⟨(.type "builtin_function_or_method"),none,.fields [(.builtin "type.__prepare__"),(.type "type")].toArray,#[]⟩) ::
 (220,⟨(.type "dict"),none,.dict (hE P "__module__" 482 (hS "lampforge.errors" 247)::hE P "__qualname__" 484 (hS "NoPaper" 483)::hE P "__firstlineno__" 486 (.int 73 485)::hE P "__init__" 495 (.ref 231)::hE P "__static_attributes__" 498 (.ref 232)::[]).toArray 5,#[]⟩) ::
 (221,yT []) ::
 (222,yN [(.int 75 0),(.int 4 0),(.ref 230)]) ::
 (223,⟨(.type "code"),none,.fields [(hS "NoPaper" 477),(hS "NoPaper" 478),(hS "/claim/cut.py" 479),(.int 73 0),(.int 0 0),(.int 0 0),(.int 0 0),(.int 0 0),(.ref 221),(.bool false),(.int 181 0),(.ref 222),.none,.none,.none,.none,(.int 480 0),(.int 73 0),(hS "/claim/cut.py" 481)].toArray,#[]⟩) ::
 (224,⟨(.type "frame"),none,.plain,#[some (.ref 223),some (.ref 3),some (.ref 220),none,some (hS "lampforge.errors" 247),none,some (.ref 0)]⟩) ::
 (225,yT []) ::
 (226,yN []) ::
 (227,yT (yS 490 ["self", "where", "at"])) ::
 (228,yT []) ::
 (229,hR "__init__" "NoPaper.__init__" y_y) ::
 (235,⟨(.type "super"),none,.fields [(.ref 234),(.ref 234),(.ref 234)].toArray,#[]⟩) ::
 (236,⟨(.type "builtin_function_or_method"),none,.fields [(.builtin "object.__init_subclass__"),(.ref 234)].toArray,#[]⟩) ::
 (237,yT [(.ref 64)]) ::
 (238,⟨(.type "builtin_function_or_method"),none,.fields [(.builtin "type.__prepare__"),(.type "type")].toArray,#[]⟩) ::
 (239,⟨(.type "dict"),none,.dict (hE P "__module__" 509 (hS "lampforge.errors" 247)::hE P "__qualname__" 511 (hS "NoWord" 510)::hE P "__firstlineno__" 513 (.int 79 512)::hE P "__static_attributes__" 514 (.ref 244)::[]).toArray 4,#[]⟩) ::
 (240,yT []) ::
 (241,yN []) ::
 (242,⟨(.type "code"),none,.fields [(hS "NoWord" 504),(hS "NoWord" 505),(hS "/claim/cut.py" 506),(.int 79 0),(.int 0 0),(.int 0 0),(.int 0 0),(.int 0 0),(.ref 240),(.bool false),(.int 181 0),(.ref 241),.none,.none,.none,.none,(.int 507 0),(.int 79 0),(hS "/claim/cut.py" 508)].toArray,#[]⟩) ::
 (243,⟨(.type "frame"),none,.plain,#[some (.ref 242),some (.ref 3),some (.ref 239),none,some (hS "lampforge.errors" 247),none,some (.ref 0)]⟩) ::
 (247,⟨(.type "super"),none,.fields [(.ref 246),(.ref 246),(.ref 246)].toArray,#[]⟩) ::
 (248,⟨(.type "builtin_function_or_method"),none,.fields [(.builtin "object.__init_subclass__"),(.ref 246)].toArray,#[]⟩) ::
 (249,yT [(.ref 64)]) ::
 (250,⟨(.type "builtin_function_or_method"),none,.fields [(.builtin "type.__prepare__"),(.type "type")].toArray,#[]⟩) ::
 (251,⟨(.type "dict"),none,.dict (hE P "__module__" 525 (hS "lampforge.errors" 247)::hE P "__qualname__" 527 (hS "NoText" 526)::hE P "__firstlineno__" 529 (.int 81 528)::hE P "__static_attributes__" 530 (.ref 256)::[]).toArray 4,#[]⟩) ::
 (252,yT []) ::
 (253,yN []) ::
 (254,⟨(.type "code"),none,.fields [(hS "NoText" 520),(hS "NoText" 521),(hS "/claim/cut.py" 522),(.int 81 0),(.int 0 0),(.int 0 0),(.int 0 0),(.int 0 0),(.ref 252),(.bool false),(.int 181 0),(.ref 253),.none,.none,.none,.none,(.int 523 0),(.int 81 0),(hS "/claim/cut.py" 524)].toArray,#[]⟩) ::
 (255,⟨(.type "frame"),none,.plain,#[some (.ref 254),some (.ref 3),some (.ref 251),none,some (hS "lampforge.errors" 247),none,some (.ref 0)]⟩) ::
 (259,⟨(.type "super"),none,.fields [(.ref 258),(.ref 258),(.ref 258)].toArray,#[]⟩) ::
 (260,⟨(.type "builtin_function_or_method"),none,.fields [(.builtin "object.__init_subclass__"),(.ref 258)].toArray,#[]⟩) ::
 (261,yT [(.ref 64)]) ::
 (262,⟨(.type "builtin_function_or_method"),none,.fields [(.builtin "type.__prepare__"),(.type "type")].toArray,#[]⟩) ::
 (263,⟨(.type "dict"),none,.dict (hE P "__module__" 541 (hS "lampforge.errors" 247)::hE P "__qualname__" 543 (hS "NoRow" 542)::hE P "__firstlineno__" 545 (.int 83 544)::hE P "__static_attributes__" 546 (.ref 268)::[]).toArray 4,#[]⟩) ::
 (264,yT []) ::
 (265,yN []) ::
 (266,⟨(.type "code"),none,.fields [(hS "NoRow" 536),(hS "NoRow" 537),(hS "/claim/cut.py" 538),(.int 83 0),(.int 0 0),(.int 0 0),(.int 0 0),(.int 0 0),(.ref 264),(.bool false),(.int 181 0),(.ref 265),.none,.none,.none,.none,(.int 539 0),(.int 83 0),(hS "/claim/cut.py" 540)].toArray,#[]⟩) ::
 (267,⟨(.type "frame"),none,.plain,#[some (.ref 266),some (.ref 3),some (.ref 263),none,some (hS "lampforge.errors" 247),none,some (.ref 0)]⟩) ::
 (271,⟨(.type "super"),none,.fields [(.ref 270),(.ref 270),(.ref 270)].toArray,#[]⟩) ::
 (272,⟨(.type "builtin_function_or_method"),none,.fields [(.builtin "object.__init_subclass__"),(.ref 270)].toArray,#[]⟩) ::
 (273,yT []) ::
 (274,yN []) ::
 (275,yT (yS 555 ["work"])) ::
 (276,yT []) ::
 (277,hr "now_net" v_e) ::
 (280,yT []) ::
 (281,yN []) ::
 (282,hr "start_net" w_b) ::
 (285,yT []) ::
 (286,yN []) ::
 (287,hr "next_net" w_p) ::
 (290,yT []) ::
 (291,yN []) ::
 (292,yT (yS 574 ["work", "end", "box"])) ::
 (293,yT []) ::
 (294,hr "start_end" w_a) ::
 (297,yT []) ::
 (298,yN []) ::
 (299,yT (yS 583 ["work", "end"])) ::
 (300,yT []) ::
 (301,hr "now_end" v_d) ::
 (304,yT []) ::
 (305,yN []) ::
 (306,yT (yS 591 ["work", "end", "box"])) ::
 (307,yT []) ::
 (308,hr "then_end" w_q) ::
 (311,yT []) ::
 (312,yN []) ::
 (313,yT (yS 602 ["thing"])) ::
 (314,yT []) ::
 (315,hr "is_whole" w_m) ::
 (318,yT []) ::
 (319,yN []) ::
 (320,yT (yS 609 ["thing", "low", "high"])) ::
 (321,yT []) ::
 (322,hr "is_between" x_i) ::
 (325,yT []) ::
 (326,yN []) ::
 (327,hr "all_stands" w_g) ::
 (330,yT []) ::
 (331,yN []) ::
 (332,yT (yS 628 ["work"])) ::
 (333,yT []) ::
 (334,hr "knots_in" w_n) ::
 (337,yT []) ::
 (338,yN []) ::
 (339,yT (yS 635 ["thing", "knots"])) ::
 (340,yT []) ::
 (341,hr "is_end" u_i) ::
 (344,yT []) ::
 (345,yN []) ::
 (346,yT (yS 643 ["thing", "knots"])) ::
 (347,yT []) ::
 (348,hr "is_pair" v_c) ::
 (351,yT []) ::
 (352,yN []) ::
 (353,hr "beside" u_h) ::
 (356,yT []) ::
 (357,yN []) ::
 (358,yT (yS 657 ["one", "other", "end"])) ::
 (359,yT []) ::
 (360,hr "first_end" x_x) ::
 (363,yT []) ::
 (364,yN []) ::
 (365,yT (yS 666 ["one", "other", "end"])) ::
 (366,yT []) ::
 (367,hr "second_end" x_l) ::
 (371,yT []) ::
 (372,yN []) ::
 (373,yT (yS 686 ["net", "classes", "step", "found"])) ::
 (374,yT []) ::
 (375,hr "is_good" u_j) ::
 (378,yT []) ::
 (379,yN []) ::
 (380,hr "is_step" u_k) ::
 (383,yT []) ::
 (384,yN []) ::
 (385,yT (yS 702 ["net", "classes", "step", "stands", "given", "leaf", "bits", "turned"])) ::
 (386,yT (yS 710 ["high"])) ::
 (387,hr "bits_of_both" z_u) ::
 (390,yT []) ::
 (391,yN []) ::
 (392,yT (yS 717 ["one", "other"])) ::
 (393,yT []) ::
 (394,hr "both_bits" w_v) ::
 (397,yT []) ::
 (398,yN []) ::
 (399,yT (yS 725 ["net", "classes", "step", "given", "power", "leaf"])) ::
 (400,yT []) ::
 (401,hr "sets_of_both" z_v) ::
 (404,yT []) ::
 (405,yN []) ::
 (406,yT (yS 737 ["one", "other", "leaves", "contraries"])) ::
 (407,yT []) ::
 (408,hr "both_sets" w_w) ::
 (411,yT []) ::
 (412,yN []) ::
 (413,hr "found_of" v_l) ::
 (416,yT []) ::
 (417,yN []) ::
 (418,yT (yS 753 ["net", "end"])) ::
 (419,yT []) ::
 (420,hr "below" r_k) ::
 (423,yT []) ::
 (424,yN []) ::
 (425,hr "look_paper" x_k) ::
 (428,yT []) ::
 (429,yN []) ::
 (430,yT (yS 769 ["work", "kept", "steps", "classes", "one", "other"])) ::
 (431,yT []) ::
 (432,hr "look_starts" x_e) ::
 (435,yT []) ::
 (436,yN []) ::
 (437,yT (yS 781 ["work", "kept", "steps", "classes", "number", "pair", "one", "other"])) ::
 (438,yT []) ::
 (439,hr "look_nexts" x_j) ::
 (442,yT []) ::
 (443,yN []) ::
 (444,yT (yS 795 ["work", "kept", "goals", "steps", "classes", "one", "other"])) ::
 (445,yT []) ::
 (446,hr "look_nows" x_y) ::
 (449,yT []) ::
 (450,yN []) ::
 (451,yT (yS 808 ["net"])) ::
 (452,yT []) ::
 (453,hr "classes_of" x_h) ::
 (456,yT []) ::
 (457,yN []) ::
 (458,yT (yS 815 ["net", "classes", "steps", "where", "number", "step"])) ::
 (459,yT []) ::
 (460,hr "take_steps" x_m) ::
 (463,yT []) ::
 (464,yN []) ::
 (465,yT (yS 827 ["one", "other"])) ::
 (466,yT []) ::
 (467,hr "look_pair" x_z) ::
 (470,yT []) ::
 (471,yN []) ::
 (472,hr "look_two" w_o) ::
 (475,yT []) ::
 (476,yN []) ::
 (477,yT (yS 843 ["_law_script", "_law_at", "_law_many", "_law_cell", "_law_rest", "_law_great", "_law_row_here", "_law_k", "_law_one"])) ::
 (478,yT []) ::
 (479,hr "_law_row" s_e) ::
 (482,yT []) ::
 (483,yN []) ::
 (484,yT (yS 858 ["_law_number", "_law_many"])) ::
 (485,yT []) ::
 (486,hr "_law_size" u_d) ::
 (489,yT []) ::
 (490,yN []) ::
 (491,hr "_law_work" u_e) ::
 (494,yT []) ::
 (495,yN []) ::
 (496,yT (yS 872 ["_law_one", "_law_other", "_law_paper", "_law_said", "e"])) ::
 (497,yT []) ::
 (498,hr "_law_asked" v_b) ::
 (501,yT []) ::
 (502,yN []) ::
 (503,yT (yS 883 ["_law_work_here"])) ::
 (504,yT []) ::
 (505,hr "_law_copy" u_c) ::
 (508,yT []) ::
 (509,yN []) ::
 (510,hr "law" k_k)::[]
noncomputable def hW (P:Params):List Obj:=mrg 514 (hK P) (hX P)
noncomputable def HL (P:Params):Heap:={ objs:=(hW P).toArray,life:={} }
def eV:Env:={ scope:=pP.main.scope,locals:=mainNs,globals:=mainNs,cells:=[],code:=(.ref 13),frame:=some 14 }
def cD:Code:=.body (behindTheImports pP) eV
abbrev bP:List Frame:=[PySem.W.topFrame ⟨0,0,0,0⟩]
noncomputable abbrev g12 (P:Params):List Value:=fEs ((hW P)[12]?)
noncomputable abbrev g3 (P:Params):List DictEntry:=dEs ((hW P)[3]?)
noncomputable def w1 (P:Params):List Obj:=(((hW P).take 15).set 3 (PySem.W.boot_o_3 P)).set 12 ⟨.none,none,.fields ((g12 P).take 0).toArray,#[]⟩
noncomputable def w2 (P:Params):List Obj:=(((hW P).take 15).set 3 (PySem.W.boot_o_3 P)).set 12 ⟨.none,none,.fields ((g12 P).take 0).toArray,#[]⟩
noncomputable def w10 (P:Params):List Obj:=((((hW P).take 137).set 3 ⟨(.type "dict"),none,.dict (((g3 P).take 15).set 0 (hE P "__name__" 165 (hS "lampforge.errors" 247))).toArray 15,#[]⟩).set 12 ⟨.none,none,.fields ((g12 P).take 18).toArray,#[]⟩).set 64 ⟨(.type "type"),none,.cls { name := "ForgeError",bases:=[(.type "ValueError")],mro:=[(.ref 64),(.type "ValueError"),(.type "Exception"),(.type "BaseException"),(.type "object")],ns:=63,qualname := "ForgeError",hasDict:=true,subclasses:=[(.ref 77),(.ref 96),(.ref 115),(.ref 134)],abstract:=false,hasDel:=false },#[some (.ref 55),none,some (hS "ForgeError" 249),some (hS "ForgeError" 257),some (.builtin "ValueError.__new__"),some (.bool true)]⟩
noncomputable def w16 (P:Params):List Obj:=((((hW P).take 237).set 3 ⟨(.type "dict"),none,.dict (((g3 P).take 21).set 0 (hE P "__name__" 165 (hS "lampforge.errors" 247))).toArray 21,#[]⟩).set 12 ⟨.none,none,.fields ((g12 P).take 36).toArray,#[]⟩).set 64 ⟨(.type "type"),none,.cls { name := "ForgeError",bases:=[(.type "ValueError")],mro:=[(.ref 64),(.type "ValueError"),(.type "Exception"),(.type "BaseException"),(.type "object")],ns:=63,qualname := "ForgeError",hasDict:=true,subclasses:=[(.ref 77),(.ref 96),(.ref 115),(.ref 134),(.ref 153),(.ref 172),(.ref 184),(.ref 203),(.ref 215),(.ref 234)],abstract:=false,hasDel:=false },#[some (.ref 55),none,some (hS "ForgeError" 249),some (hS "ForgeError" 257),some (.builtin "ValueError.__new__"),some (.bool true)]⟩
noncomputable def w39 (P:Params):List Obj:=(((hW P).take 370).set 3 ⟨(.type "dict"),none,.dict (((g3 P).take 39).set 0 (hE P "__name__" 165 (hS "lampforge.steps" 672))).toArray 39,#[]⟩).set 12 ⟨.none,none,.fields ((g12 P).take 90).toArray,#[]⟩
noncomputable def w40 (P:Params):List Obj:=(((hW P).take 371).set 3 ⟨(.type "dict"),none,.dict (((g3 P).take 40).set 0 (hE P "__name__" 165 (hS "lampforge.steps" 672))).toArray 40,#[]⟩).set 12 ⟨.none,none,.fields ((g12 P).take 90).toArray,#[]⟩
noncomputable def w65 (P:Params):List Obj:=(hW P).take 513
theorem hOpen:∀ w:World,(PySem.W.fencedOpening treeTable pP w 9638).map (fun s=>(s.heap,s.gens,s.drawn,s.toks))=some (boot_heap w.params,Array.mk [],boot_drawn,boot_toks):=PySem.W.boot_open (by kernel_rfl) (by kernel_rfl) (fun s=>by kernel_rfl)
set_option maxRecDepth 100000 in
set_option maxHeartbeats 0 in
theorem hSize:∀ w:World,((boot_heap w.params).isNs mainGlobals&&(Array.mk []:Array GenState).size == 0,(boot_heap w.params).objs.size,(boot_heap w.params).nsMap mainGlobals (Str.ofString "__annotations__"))=(true,11,some (.ref 6)):=fun w=>by kernel_rfl
set_option maxRecDepth 100000 in
set_option maxHeartbeats 0 in
theorem hPre:∀ (w:World) (os:OsState),PySem.W.topGo treeTable pP w 11 (some (.ref 6)) 12 ⟨boot_heap w.params,Array.mk [],boot_drawn,boot_toks,os⟩ (PySem.W.topStub pP)=some (⟨{ objs:=(w1 w.params).toArray,life:={} },#[],⟨0,0,0,0⟩,187,os⟩,⟨denote treeTable cD,cD,⟨0,0,0,0⟩,bP⟩):=fun w os=>by kernel_rfl
set_option maxRecDepth 100000 in
set_option maxHeartbeats 0 in
theorem hBlk:∀ (w:World) (os:OsState),PySem.W.segRun treeTable pP w 11 (some (.ref 6)) 1 1 ⟨{ objs:=(w1 w.params).toArray,life:={} },#[],⟨0,0,0,0⟩,187,os⟩ (PySem.W.blockOf (behindTheImports pP) eV cD ⟨0,0,0,0⟩ bP)=some (.next,PySem.W.SharedT.abs ⟨mkT 20 (w2 w.params),15,{},#[],⟨0,0,0,0⟩,187,os⟩,cD,⟨0,0,0,0⟩):=fun w os=>by kernel_rfl
abbrev q0:List Stmt:=((behindTheImports pP).drop 0).take 8
set_option maxRecDepth 100000 in
set_option maxHeartbeats 0 in
theorem hG0:∀ (w:World) (os:OsState),segRunT treeTable pP w 11 (some (.ref 6)) 1 1480 ⟨mkT 20 (w2 w.params),15,{},#[],⟨0,0,0,0⟩,187,os⟩ (piecesOf q0 eV cD ⟨0,0,0,0⟩ bP)=some (.next,⟨mkT 20 (w10 w.params),137,{},#[],⟨0,0,0,0⟩,364,os⟩,cD,⟨46,0,51,24⟩):=fun w os=>by kernel_rfl
abbrev q1:List Stmt:=((behindTheImports pP).drop 8).take 6
set_option maxRecDepth 100000 in
set_option maxHeartbeats 0 in
theorem hG1:∀ (w:World) (os:OsState),segRunT treeTable pP w 11 (some (.ref 6)) 1 1413 ⟨mkT 20 (w10 w.params),137,{},#[],⟨0,0,0,0⟩,364,os⟩ (piecesOf q1 eV cD ⟨46,0,51,24⟩ bP)=some (.next,⟨mkT 20 (w16 w.params),237,{},#[],⟨0,0,0,0⟩,502,os⟩,cD,⟨73,0,78,20⟩):=fun w os=>by kernel_rfl
abbrev q2:List Stmt:=((behindTheImports pP).drop 14).take 23
set_option maxRecDepth 100000 in
set_option maxHeartbeats 0 in
theorem hG2:∀ (w:World) (os:OsState),segRunT treeTable pP w 11 (some (.ref 6)) 1 1121 ⟨mkT 20 (w16 w.params),237,{},#[],⟨0,0,0,0⟩,502,os⟩ (piecesOf q2 eV cD ⟨73,0,78,20⟩ bP)=some (.next,⟨mkT 20 (w39 w.params),370,{},#[],⟨0,0,0,0⟩,674,os⟩,cD,⟨155,0,155,8⟩):=fun w os=>by kernel_rfl
abbrev q3:List Stmt:=((behindTheImports pP).drop 37).take 1
set_option maxRecDepth 100000 in
set_option maxHeartbeats 0 in
theorem hG3f:∀ (w:World) (os:OsState),segRunT treeTable pP (w.withFollow "special-get-raises" false) 11 (some (.ref 6)) 1 41 ⟨mkT 20 (w39 (w.withFollow "special-get-raises" false).params),370,{},#[],⟨0,0,0,0⟩,674,os⟩ (piecesOf q3 eV cD ⟨155,0,155,8⟩ bP)=some (.next,⟨mkT 20 (w40 (w.withFollow "special-get-raises" false).params),371,{},#[],⟨0,0,0,0⟩,681,os⟩,cD,⟨156,0,156,11⟩):=fun w os=>by kernel_rfl
set_option maxRecDepth 100000 in
set_option maxHeartbeats 0 in
theorem hG3t:∀ (w:World) (os:OsState),segRunT treeTable pP (w.withFollow "special-get-raises" true) 11 (some (.ref 6)) 1 41 ⟨mkT 20 (w39 (w.withFollow "special-get-raises" true).params),370,{},#[],⟨0,0,0,0⟩,674,os⟩ (piecesOf q3 eV cD ⟨155,0,155,8⟩ bP)=some (.next,⟨mkT 20 (w40 (w.withFollow "special-get-raises" true).params),371,{},#[],⟨0,0,0,0⟩,681,os⟩,cD,⟨156,0,156,11⟩):=fun w os=>by kernel_rfl
theorem hG3:∀ (w:World) (os:OsState),segRunT treeTable pP w 11 (some (.ref 6)) 1 41 ⟨mkT 20 (w39 w.params),370,{},#[],⟨0,0,0,0⟩,674,os⟩ (piecesOf q3 eV cD ⟨155,0,155,8⟩ bP)=some (.next,⟨mkT 20 (w40 w.params),371,{},#[],⟨0,0,0,0⟩,681,os⟩,cD,⟨156,0,156,11⟩):=fun w=>PySem.W.byRow2 "special-get-raises" (P:=fun w=>∀ os:OsState,segRunT treeTable pP w 11 (some (.ref 6)) 1 41 ⟨mkT 20 (w39 w.params),370,{},#[],⟨0,0,0,0⟩,674,os⟩ (piecesOf q3 eV cD ⟨155,0,155,8⟩ bP)=some (.next,⟨mkT 20 (w40 w.params),371,{},#[],⟨0,0,0,0⟩,681,os⟩,cD,⟨156,0,156,11⟩)) hG3f hG3t w
abbrev q4:List Stmt:=((behindTheImports pP).drop 38).take 25
set_option maxRecDepth 100000 in
set_option maxHeartbeats 0 in
theorem hG4:∀ (w:World) (os:OsState),segRunT treeTable pP w 11 (some (.ref 6)) 1 706 ⟨mkT 20 (w40 w.params),371,{},#[],⟨0,0,0,0⟩,681,os⟩ (piecesOf q4 eV cD ⟨156,0,156,11⟩ bP)=some (.next,⟨mkT 20 (w65 w.params),513,{},#[],⟨0,0,0,0⟩,893,os⟩,cD,⟨315,0,340,15⟩):=fun w os=>by kernel_rfl
set_option maxRecDepth 100000 in
set_option maxHeartbeats 0 in
theorem hFin:∀ (w:World) (os:OsState),PySem.W.topRun treeTable pP w 11 (some (.ref 6)) 2 (PySem.W.SharedT.abs ⟨mkT 20 (w65 w.params),513,{},#[],⟨0,0,0,0⟩,893,os⟩) ⟨PySem.W.doneF .next,cD,⟨315,0,340,15⟩,bP⟩=some ⟨HL w.params,#[],⟨0,0,0,0⟩,893,os⟩:=fun w os=>by kernel_rfl
theorem hSplit:behindTheImports pP=q0++(q1++(q2++(q3++(q4++[])))):=by kernel_rfl
theorem hRun:∀ (w:World) (os:OsState),PySem.W.topRun treeTable pP w 11 (some (.ref 6)) (12+(1+(1480+(1413+(1121+(41+(706+2))))))) ⟨boot_heap w.params,Array.mk [],boot_drawn,boot_toks,os⟩ (PySem.W.topStub pP)=some ⟨HL w.params,#[],⟨0,0,0,0⟩,893,os⟩:=fun w os=>by
 refine PySem.W.go_top (hPre w os) (PySem.W.piece_block (hBlk w os) ?_)
 rw [hSplit]
 exact piece_app (segRun_of (hG0 w os)) (piece_app (segRun_of (hG1 w os)) (piece_app (segRun_of (hG2 w os)) (piece_app (segRun_of (hG3 w os)) (piece_app (segRun_of (hG4 w os)) (PySem.W.piece_nil (hFin w os))))))
set_option maxRecDepth 100000 in
set_option maxHeartbeats 0 in
theorem hk1:∀ (w:World) (os:OsState),(PySem.W.staticsOk (importedModules pP.main.body) (boot_heap w.params) (HL w.params)&&PySem.W.namesBound pP (HL w.params)&&PySem.W.gensDone ⟨HL w.params,#[],⟨0,0,0,0⟩,893,os⟩&&PySem.W.laidKept (boot_heap w.params) (HL w.params))=true:=fun w os=>by kernel_rfl
set_option maxRecDepth 100000 in
set_option maxHeartbeats 0 in
theorem hk2:∀ (w:World) (os:OsState),PySem.W.openSeen hV hL (importedModules pP.main.body) (fun s=>xlAt hV [] s&&recOk (PySem.W.RowW.records PySem.Challenge.rw_lampforge_k42_two_works_or_no_pair.row.toRowW) s) true ⟨HL w.params,#[],⟨0,0,0,0⟩,893,os⟩=PySem.W.openGood hV hL:=fun w os=>by kernel_rfl
set_option maxRecDepth 100000 in
set_option maxHeartbeats 0 in
theorem hk3:∀ (w:World) (os:OsState),PySem.W.Hook.obs (kHook hK hA hQ) ⟨HL w.params,#[],⟨0,0,0,0⟩,893,os⟩=PySem.W.Hook.val (kHook hK hA hQ) w:=fun w os=>by kernel_rfl
theorem hLeft:PySem.W.LeftO pP hV hL (fun s=>xlAt hV [] s&&recOk (PySem.W.RowW.records PySem.Challenge.rw_lampforge_k42_two_works_or_no_pair.row.toRowW) s) (PySem.W.Hook.obs (kHook hK hA hQ)) (PySem.W.Hook.val (kHook hK hA hQ)) 9638 true:=PySem.W.LeftO.of_pieces (H₁:=HL) hOpen hSize hRun (by kernel_rfl) fun w=>funext fun os=>congr (congrArg Prod.mk (hk1 w os)) (congr (congrArg Prod.mk (hk2 w os)) (hk3 w os))
end K42
open PySem PySem.W PyProof.Rows
set_option maxRecDepth 100000 in
set_option maxHeartbeats 0 in
theorem PySem.Challenge.cw_lampforge_k42_two_works_or_no_pair_holds : PySem.Challenge.rw_lampforge_k42_two_works_or_no_pair.Holds := by
 w_on
 refine PySem.W.holds_law K42.hSaid fun said=>?_
 refine PySem.W.holds_open (q:=K42.hV) (loose:=K42.hL) (Xt:=fun s=>xlAt K42.hV [] s&&recOk (PySem.W.RowW.records PySem.Challenge.rw_lampforge_k42_two_works_or_no_pair.row.toRowW) s) (XP:=PySem.W.XL K42.hV []) (Yf:=PySem.W.Hook.obs (kHook K42.hK K42.hA K42.hQ)) (Ya:=PySem.W.Hook.val (kHook K42.hK K42.hA K42.hQ)) (YP:=PySem.W.Hook.says (kHook K42.hK K42.hA K42.hQ)) (N:=9638) ?hl (PySem.W.Hook.of (kHook K42.hK K42.hA K42.hQ)) (PySem.W.Hook.keeps (kHook K42.hK K42.hA K42.hQ)) (fun s e=>PySem.W.xl_of s (Bool.and_eq_true_iff.mp e).1) PySem.W.XL.keeps (by rfl) (by rfl) (by rfl) (fun s e=>PySem.W.recFacts_of (Bool.and_eq_true_iff.mp e).2) (by rfl) (by first | assumption | decide +kernel) (by decide +kernel) ⟨rfl,rfl,rfl,rfl,rfl,by decide +kernel⟩ ?hw ?hc
 case hl=>exact K42.hLeft
 (case hw=>exact ⟨[.list []],by kernel_rfl,by kernel_rfl⟩)
 k_fill
 refine K42.walk (l:=PySem.Challenge.rw_lampforge_k42_two_works_or_no_pair) rfl rfl rfl (fun w h Y=>PySem.W.kIn_of Y) (fun w=>by kernel_rfl) ⟨_,rfl⟩ ⟨_,rfl⟩ ?F
 case F =>
  intro w mg fa h KX G hmg
  refine' K42.all_mk KX G hmg ?_ ?_ ?_ ?_ ?_ ?_ ?_ ?_ ?_ ?_ ?_ ?_ ?_ ?_ ?_ ?_ ?_ ?_ ?_ ?_ ?_ ?_ ?_ ?_ ?_ ?_ ?_ ?_ ?_ ?_ ?_ ?_ ?_ ?_ ?_ ?_ ?_ ?_ ?_ ?_ ?_ ?_ ?_ ?_ ?_ ?_ ?_ ?_ ?_ ?_ ?_ ?_ ?_ ?_ ?_ ?_ ?_ ?_ ?_ ?_ ?_ ?_ ?_ ?_ ?_ ?_ ?_ ?_ ?_ ?_ ?_ ?_ ?_ ?_ ?_ ?_ ?_ ?_ ?_ ?_ ?_ ?_ ?_ ?_ ?_ ?_ ?_ ?_ ?_ ?_ ?_ ?_ ?_ ?_ ?_ ?_ ?_ ?_ ?_ ?_ ?_ ?_ ?_ ?_ ?_ ?_ ?_ ?_ ?_ ?_ ?_ ?_ ?_ ?_ ?_ ?_ ?_ ?_ ?_ ?_ ?_ ?_ ?_ ?_ ?_ ?_ ?_ ?_ ?_ ?_ ?f_x_ForgeError ?f_x_NoPair ?f_q_NoPair ?f_o_NoPaper ?f_ty_NoPaper ?f_sa_NoPaper ?f_nf_where ?f_nf_at ?f_gm_ForgeError ?f_ne_PP ?f_ne_PF ?f_i_val ?f_i_no1 ?f_i_no2 ?_ ?_ ?kF ?lo_F ?eF ?_ ?ee_bits_of_both ?_ ?vp_bits_of_both ?ee_sets_of_both ?_ ?vp_sets_of_both ?ndT
  all_goals try first | k_is | (unfold K42.NI;k_is) | (refine' L2.fun_mk ?l ?c ?k;(case l=>k_is);(case c=>k_is);(case k=>k_is))
  (try case f_x_ForgeError=>kernel_rfl)
  (try case f_x_NoPair=>kernel_rfl)
  (try case f_q_NoPair=>kernel_rfl)
  (try case f_o_NoPaper=>kernel_rfl)
  (try case f_ty_NoPaper=>kernel_rfl)
  (try case f_sa_NoPaper=>kernel_rfl)
  (try case f_nf_where=>kernel_rfl)
  (try case f_nf_at=>kernel_rfl)
  (try case f_gm_ForgeError=>exact ⟨by kernel_rfl,by kernel_rfl,by kernel_rfl⟩)
  (try case f_ne_PP=>decide)
  (try case f_ne_PF=>decide)
  (try case f_i_val=>kernel_rfl)
  (try case f_i_no1=>kernel_rfl)
  (try case f_i_no2=>kernel_rfl)
  (try case kF=>k_keys)
  (try case lo_F=>decide)
  (try case eF=>rfl)
  (try case ee_bits_of_both=>exact rfl)
  (try case vp_bits_of_both=>exact rfl)
  (try case ee_sets_of_both=>exact rfl)
  (try case vp_sets_of_both=>exact rfl)
  (try case ndT=>decide)
  all_goals try first | k_is | (unfold K42.NI;k_is) | (refine' L2.fun_mk ?l ?c ?k;(case l=>k_is);(case c=>k_is);(case k=>k_is))
  (try case ee_bits_of_both=>exact rfl)
  (try case vp_bits_of_both=>exact rfl)
  (try case ee_sets_of_both=>exact rfl)
  (try case vp_sets_of_both=>exact rfl)
  (try case ndT=>decide)
