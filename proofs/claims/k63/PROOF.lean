import PyProof.Rows.All
import Wide.All
import OpenK.AllK
import Wide.FinOn
import Lean
import PyProof.EqAt
import PyProof.EqKinds
import PyProof.TupleCall
import KE.BitLaws
import KE.KMinKey
import KE.KIntText
import KE.KDictList
import PySem.Challenge.RW_lampforge_k63_plans_written_and_read
open PySem.W (instObj methodObj lookIn kitOne kia_one kitx_list kitx_dict keepIn fnOf codeIn kia_tup nsIn mg_of mg_none_of behindTheImports boot_heap boot_drawn boot_toks segRunT piecesOf piece_app segRun_of xlAt recOk kHook)
set_option genSizeOfSpec false
noncomputable section
set_option Elab.async false
set_option linter.all false
set_option maxRecDepth 100000
namespace L2
open PySem PySem.Spec PyProof.Rows
abbrev Key:=Sum Int Str
def keyIs:Key->Value->Bool
 | .inl k,v=>Value.isInt k v
 | .inr x,v=>Value.isStrOf x v
def keyH(w:World):Key->Int
 | .inl k=>hashInt k
 | .inr x=>hashStr w x
theorem x_c:∀ {k:Key} {v:Value},keyIs k v=true->(∃ i t,k=Sum.inl i/\v=Value.int i t)\/(∃ x t,k=Sum.inr x/\v=Value.str x t)
 | .inl i,v,h=>by
  obtain ⟨t,e⟩:=Value.isInt_shape (k:=i) (v:=v) h
  exact .inl ⟨i,t,rfl,e⟩
 | .inr x,v,h=>by
  obtain ⟨t,e⟩:=Value.isStrOf_shape (x:=x) (v:=v) h
  exact .inr ⟨x,t,rfl,e⟩
theorem key_ll(a b:Int):decide ((Sum.inl a:Key)=Sum.inl b)=(a == b):=by
 by_cases e:a=b
 ·subst e;simp
 ·have h:¬(Sum.inl a:Key)=Sum.inl b:=fun q=>e (Sum.inl.inj q)
  rw [decide_eq_false h]
  exact (beq_eq_false_iff_ne.mpr e).symm
theorem key_rr(a b:Str):decide ((Sum.inr a:Key)=Sum.inr b)=decide (a=b):=by
 by_cases e:a=b
 ·subst e;simp
 ·have h:¬(Sum.inr a:Key)=Sum.inr b:=fun q=>e (Sum.inr.inj q)
  rw [decide_eq_false h,decide_eq_false e]
theorem key_lr(a:Int)(b:Str):decide ((Sum.inl a:Key)=Sum.inr b)=false:=decide_eq_false (fun q=>nomatch q)
theorem key_rl(a:Str)(b:Int):decide ((Sum.inr a:Key)=Sum.inl b)=false:=decide_eq_false (fun q=>nomatch q)
def mixKind(prog:Program)(w:World):PySem.KeyKind prog w Key where
 is:=keyIs
 hash:=keyH w
 inj:=fun v a b ha hb=>by
  rcases x_c ha with ⟨i,t,rfl,rfl⟩ | ⟨x,t,rfl,rfl⟩
  ·rcases x_c hb with ⟨j,u,rfl,e⟩ | ⟨y,u,rfl,e⟩
   ·injection e with e1 _;rw [e1]
   ·exact nomatch e
  ·rcases x_c hb with ⟨j,u,rfl,e⟩ | ⟨y,u,rfl,e⟩
   ·exact nomatch e
   ·injection e with e1 _;rw [e1]
 byValue:=fun k v h=>by
  rcases x_c h with ⟨i,t,rfl,rfl⟩ | ⟨x,t,rfl,rfl⟩<;>rfl
 pyHash:=fun hv h=>by
  rcases x_c hv with ⟨i,t,rfl,rfl⟩ | ⟨x,t,rfl,rfl⟩
  ·exact wpAny_pyHash_int h
  ·exact wpAny_pyHash_str h
 eqBool:=fun hu hv h=>by
  rcases x_c hu with ⟨i,t,rfl,rfl⟩ | ⟨x,t,rfl,rfl⟩
  ·rcases x_c hv with ⟨j,u,rfl,rfl⟩ | ⟨y,u,rfl,rfl⟩
   ·rw [key_ll] at h;exact wpAny_eqBool_int h
   ·rw [key_lr] at h;exact SeqAt.EqAt.int_str i t y u _ _ _ _ h
  ·rcases x_c hv with ⟨j,u,rfl,rfl⟩ | ⟨y,u,rfl,rfl⟩
   ·rw [key_rl] at h;exact SeqAt.EqAt.str_int x t j u _ _ _ _ h
   ·rw [key_rr] at h;exact wpAny_eqBool_str h
 «strs» := fun k x t v h=>by
  rcases x_c h with ⟨i,u,rfl,e⟩ | ⟨y,u,rfl,e⟩
  ·exact nomatch e
  ·injection e with e1 _
   subst e1
   cases v<;>rfl
inductive V where
 | non | bl (b:Bool) | int (i:Int) | str (x:Str) | byt (b:Array UInt8) | flt (b:UInt64) | ref (a:Addr) | ty (n:String)
 deriving DecidableEq
def RelV:V->Value->Prop
 | .non,u=>u=Value.none
 | .bl b,u=>u=Value.bool b
 | .int i,u=>∃ t,u=Value.int i t
 | .str x,u=>∃ t,u=Value.str x t
 | .byt b,u=>∃ t,u=Value.bytes b t
 | .flt b,u=>∃ t,u=Value.float b t
 | .ref a,u=>u=Value.ref a
 | .ty n,u=>u=Value.type n
abbrev Vals:List V->List Value->Prop:=Paired RelV
theorem Vals.length{xs:List V}{us:List Value}(r:Vals xs us):xs.length=us.length:=Paired.length r
theorem Vals.get:∀ {xs:List V} {us:List Value} {i:Nat} {x:V},Vals xs us->xs[i]? = some x->∃ u,us[i]? = some u/\RelV x u
 | _,_,_,_,.nil,e=>by simp at e
 | _,_,0,_,.cons r _,e=>by simp at e;subst e;exact ⟨_,rfl,r⟩
 | _,_,i+1,x,.cons _ t,e=>by
  obtain ⟨u,h1,h2⟩:=Vals.get (i:=i) (x:=x) t (by simpa using e)
  exact ⟨u,by simpa using h1,h2⟩
theorem Vals.set{x:V}{u:Value}(r:RelV x u):∀ {xs:List V} {us:List Value} (i:Nat),Vals xs us->Vals (xs.set i x) (us.set i u)
 | _,_,_,.nil=>.nil
 | _,_,0,.cons _ t=>.cons r t
 | _,_,i+1,.cons q t=>.cons q (Vals.set r i t)
theorem Vals.append:∀ {xs ys:List V} {us ws:List Value},Vals xs us->Vals ys ws->Vals (xs++ys) (us++ws)
 | _,_,_,_,.nil,s=>s
 | _,_,_,_,.cons r t,s=>.cons r (Vals.append t s)
theorem Vals.take:∀ {xs:List V} {us:List Value} (n:Nat),Vals xs us->Vals (xs.take n) (us.take n)
 | _,_,0,_=>.nil
 | _,_,_+1,.nil=>.nil
 | _,_,n+1,.cons r t=>.cons r (Vals.take n t)
theorem Vals.drop:∀ {xs:List V} {us:List Value} (n:Nat),Vals xs us->Vals (xs.drop n) (us.drop n)
 | _,_,0,r=>r
 | _,_,_+1,.nil=>.nil
 | _,_,n+1,.cons _ t=>Vals.drop n t
def RelO:Option V->Option Value->Prop
 | some v,some u=>RelV v u
 | none,none=>True
 | _,_=>False
def KV{κ:Type}:List (κ×V)->List (κ×Value)->Prop:=Paired fun (p:κ×V) (q:κ×Value)=>p.1=q.1/\RelV p.2 q.2
def kV:Key->V
 | .inl i=>.int i
 | .inr x=>.str x
inductive HO where
 | lst (xs:List V)
 | tup (xs:List V)
 | dK (kvs:List (Key×V)) | dT (kvs:List (List Key×V))
 | set (S:Int->Bool) (n:Nat)
 | ins (C dx:Addr) (fs:List (Str×V))
 | own (x:Addr)
 | xd (fs:List (Str×V))
 | met (f x:Addr)
 | rng (lo hi:Int)
 | frz (o:Obj) (u:HO)
 | tbl (pos:Pos) (qual:Str)
 | ext (φ:Heap->Prop)
abbrev Hp:=Addr->Option HO
def upd(H:Hp)(a:Addr)(o:HO):Hp:=fun b=>if b=a then some o else H b
theorem z_c{H:Hp}{a:Addr}{o:HO}:upd H a o a=some o:=by unfold upd;rw [if_pos rfl]
theorem y_a{H:Hp}{a b:Addr}{o:HO}(h:b≠a):upd H a o b=H b:=by unfold upd;rw [if_neg h]
theorem z_r{H:Hp}{a b:Addr}{o:HO}(h:H a=some o)(h':H b=none):a≠b:=by
 intro e;subst e;rw [h] at h';cases h'
section
variable (P:Program) (w:World)
def ObjOk(H:Hp)(h:Heap)(a:Addr):HO->Prop
 | .lst xs=>xs.length<=sizeLine/\∃ (its:List Value) (n:Nat),Vals xs its/\h.get? a=some { cls:=.type "list",data:=.seq its.toArray n }
 | .tup xs=>xs.length<=sizeLine/\∃ its:List Value,Vals xs its/\IsTup h a its.toArray
 | .dK kvs=>kvs.length<=sizeLine/\(a == sysModules)=false/\∃ vs,KV kvs vs/\h.DictOf (mixKind P w) a vs
 | .dT kvs=>kvs.length<=sizeLine/\(a == sysModules)=false/\∃ xs:List (List Key×Addr×Value),
   Paired (fun (p:List Key×V) (q:List Key×Addr×Value)=>p.1=q.1/\H q.2.1=some (.tup (p.1.map kV))/\RelV p.2 q.2.2) kvs xs /\
   ∃ o es ep,h.get? a=some o/\o.ExactDict/\o.data = .dict es ep/\es.toList=xs.map (entryOfKey (tupleKind (mixKind P w)))/\(xs.map (·.1)).Nodup
 | .set S n=>h.SetOf (intKind P w) a S n
 | .ins C dx fs=>H dx=some (.own a)/\fs.length<=1000/\dx≠a/\h.get? a=some (instObj C dx) /\
   ∃ mA,h.Ns1 dx mA/\(∀ f,RelO (fs.lookup f) (mA f))/\PySem.Within mA (fs.map (·.1))
 | .own _=>∃ o,h.get? a=some o
 | .xd fs=>∃ mA,h.Ns1 a mA/\∀ f,RelO (fs.lookup f) (mA f)
 | .rng lo hi=>∃ t u v,h.get? a=some { cls:=.type "range",data:=.fields #[.int lo t,.int hi u,.int 1 v] }
 | .frz o u=>h.get? a=some o/\ObjOk H h a u
 | .tbl pos qual=>∃ ps:Array Value,h.get? a=some { cls:=.none,data:=.fields ps }/\TriplesOk ps.toList/\(codeAmong pos ps.toList=none\/∃ c oc vs tq,codeAmong pos ps.toList=some (.ref c)/\H c=some (.frz oc (.own a))/\oc.data = .fields vs/\vs[1]? = some (.str qual tq))
 | .met f x=>h.get? a=some (methodObj (.ref f) (.ref x))
 | .ext φ=>φ h/\(∃ o,h.get? a=some o)/\∀ h1 h2:Heap,φ h1->(∀ o,h1.get? a=some o->h2.get? a=some o)->φ h2
def HOk(H:Hp)(h:Heap):Prop:=∀ a o,H a=some o->ObjOk P w H h a o
end
section
variable {P:Program} {w:World} {H H':Hp} {h h':Heap} {a:Addr} {o:HO}
theorem ObjOk.lt(x:ObjOk P w H h a o):a<h.objs.size:=by
 cases o with
 | lst xs=>obtain ⟨_,_,_,_,e⟩:=x;exact Heap.lt_size e
 | tup xs=>obtain ⟨_,_,_,p⟩:=x;exact p.lt
 | dK kvs=>obtain ⟨_,_,_,_,o,_,_,e,_⟩:=x;exact Heap.lt_size e
 | dT kvs=>obtain ⟨_,_,_,_,o,_,_,e,_⟩:=x;exact Heap.lt_size e
 | set S n=>obtain ⟨o,_,_,_,e,_⟩:=x;exact Heap.lt_size e
 | ins C dx fs=>obtain ⟨_,_,_,e,_⟩:=x;exact Heap.lt_size e
 | own y=>obtain ⟨_,e⟩:=x;exact Heap.lt_size e
 | xd fs=>obtain ⟨_,⟨_,_,_,e,_⟩,_⟩:=x;exact Heap.lt_size e
 | rng lo hi=>obtain ⟨_,_,_,e⟩:=x;exact Heap.lt_size e
 | frz ob u=>obtain ⟨e,_⟩:=x;exact Heap.lt_size e
 | tbl pos qual=>obtain ⟨_,e,_⟩:=x;exact Heap.lt_size e
 | met f y=>exact Heap.lt_size (show h.get? a=some _ from x)
 | ext φ=>obtain ⟨_,⟨_,e⟩,_⟩:=x;exact Heap.lt_size e
theorem Paired.mapP{α β:Type}{F G:α->β->Prop}:∀ {l₁:List α} {l₂:List β},Paired F l₁ l₂->(∀ a b,F a b->G a b)->Paired G l₁ l₂
 | _,_,.nil,_=>.nil
 | _,_,.cons r t,f=>.cons (f _ _ r) (Paired.mapP t f)
theorem ObjOk.stay(x:ObjOk P w H h a o)(k:∀ b u,(b=a\/H b=some (.own a))->h.get? b=some u->h'.get? b=some u)
  (ho:∀ b,H b=some (.own a)->H' b=some (.own a)) (ht:∀ b xs,H b=some (.tup xs)->H' b=some (.tup xs)) (hz:∀ b o u,H b=some (.frz o u)->H' b=some (.frz o u)):ObjOk P w H' h' a o:=by
 induction o with
 | lst xs=>obtain ⟨z,its,n,r,e⟩:=x;exact ⟨z,its,n,r,k _ _ (.inl rfl) e⟩
 | tup xs=>obtain ⟨z,its,r,ob,e,c⟩:=x;exact ⟨z,its,r,ob,k _ _ (.inl rfl) e,c⟩
 | dK kvs=>obtain ⟨z,y,vs,r,ob,es,ep,e,c⟩:=x;exact ⟨z,y,vs,r,ob,es,ep,k _ _ (.inl rfl) e,c⟩
 | dT kvs =>
  obtain ⟨z,y,xs,r,ob,es,ep,e,c⟩:=x
  exact ⟨z,y,xs,Paired.mapP r fun p q z=>⟨z.1,ht _ _ z.2.1,z.2.2⟩,ob,es,ep,k _ _ (.inl rfl) e,c⟩
 | set S n=>obtain ⟨ob,es,ep,t,e,c⟩:=x;exact ⟨ob,es,ep,t,k _ _ (.inl rfl) e,c⟩
 | ins C dx fs =>
  obtain ⟨d,z,ne,e,mA,⟨od,es,ep,e2,c⟩,r⟩:=x
  exact ⟨ho _ d,z,ne,k _ _ (.inl rfl) e,mA,⟨od,es,ep,k _ _ (.inr d) e2,c⟩,r⟩
 | own y=>obtain ⟨ob,e⟩:=x;exact ⟨ob,k _ _ (.inl rfl) e⟩
 | xd fs=>obtain ⟨mA,⟨od,es,ep,e,c⟩,r⟩:=x;exact ⟨mA,⟨od,es,ep,k _ _ (.inl rfl) e,c⟩,r⟩
 | rng lo hi=>obtain ⟨t,u,v,e⟩:=x;exact ⟨t,u,v,k _ _ (.inl rfl) e⟩
 | frz ob u ih=>obtain ⟨e,q⟩:=x;exact ⟨k _ _ (.inl rfl) e,ih q⟩
 | tbl pos qual =>
  obtain ⟨ps,e,t,c⟩:=x
  refine ⟨ps,k a _ (.inl rfl) e,t,?_⟩
  rcases c with c | ⟨c,oc,vs,tq,c1,c2,c3⟩
  ·exact .inl c
  ·exact .inr ⟨c,oc,vs,tq,c1,hz _ _ _ c2,c3⟩
 | met f y =>
  have e:h.get? a=some (methodObj (.ref f) (.ref y)):=x
  show h'.get? a=some (methodObj (.ref f) (.ref y))
  exact k a _ (.inl rfl) e
 | ext φ=>obtain ⟨p,⟨o,e⟩,st⟩:=x;exact ⟨st _ _ p fun o q=>k _ _ (.inl rfl) q,⟨o,k _ _ (.inl rfl) e⟩,st⟩
theorem HOk.lt(x:HOk P w H h)(e:H a=some o):a<h.objs.size:=(x a o e).lt
theorem HOk.fresh(x:HOk P w H h)(e:h.objs.size<=a):H a=none:=by
 cases q:H a with
 | none=>rfl
 | some u=>exact absurd (Nat.lt_of_lt_of_le (x.lt q) e) (Nat.lt_irrefl _)
theorem HOk.kept(x:HOk P w H h)(k:∀ b u,h.get? b=some u->h'.get? b=some u):HOk P w H h':=fun a o e =>
 (x a o e).stay (fun b u _ q=>k b u q) (fun _ q=>q) (fun _ _ q=>q) fun _ _ _ q=>q
theorem HOk.laid(x:HOk P w H h)(k:∀ b u,h.get? b=some u->h'.get? b=some u)(hp:h.objs.size<=a)(new:ObjOk P w (upd H a o) h' a o):HOk P w (upd H a o) h':=fun b u e=>by
 have hn:=x.fresh hp
 by_cases hb:b=a
 ·subst hb;rw [z_c] at e;cases e;exact new
 ·rw [y_a hb] at e
  exact (x b u e).stay (fun c v _ q=>k c v q) (fun c q=>by rw [y_a (z_r q hn)];exact q) (fun c xs q=>by rw [y_a (z_r q hn)];exact q) fun c ob xs q=>by rw [y_a (z_r q hn)];exact q
end
def Rd(H:Hp)(a:Addr)(u:HO):Prop:=H a=some u\/∃ o,H a=some (.frz o u)
theorem Rd.ok{P:Program}{w:World}{H:Hp}{h:Heap}{a:Addr}{u:HO}(r:Rd H a u)(x:HOk P w H h):ObjOk P w H h a u:=by
 rcases r with r | ⟨o,r⟩
 ·exact x a u r
 ·obtain ⟨_,q⟩:=x a _ r
  exact q
def Mut:Option HO->Prop
 | some (.lst _)=>True
 | some (.dK _)=>True
 | some (.dT _)=>True
 | some (.set _ _)=>True
 | some (.ins _ _ _)=>True
 | some (.ext _)=>True
 | _=>False
section
variable {P:Program} {w:World} {H:Hp} {h h':Heap} {x e:Addr} {o':HO}
theorem HOk.write(ok:HOk P w H h)(mu:Mut (H x))(he:e=x\/H e=some (.own x))(k:∀ b u,b≠e->h.get? b=some u->h'.get? b=some u)(heo:∃ u,h'.get? e=some u)
  (new:ObjOk P w (upd H x o') h' x o'):HOk P w (upd H x o') h':=fun b u q=>by
 have nown:∀ c y,H c=some (.own y)->c≠x:=fun c y r z=>by subst z;rw [r] at mu;exact mu
 have ntup:∀ c xs,H c=some (.tup xs)->c≠x:=fun c xs r z=>by subst z;rw [r] at mu;exact mu
 by_cases hb:b=x
 ·subst hb;rw [z_c] at q;cases q;exact new
 ·rw [y_a hb] at q
  by_cases hbe:b=e
  ·have q':H b=some (.own x):=by
    rcases he with z | z
    ·exact absurd (hbe.trans z) hb
    ·rw [hbe];exact z
   rw [q] at q';cases q'
   obtain ⟨v,hv⟩:=heo
   exact ⟨v,by rw [hbe];exact hv⟩
  ·refine (ok b u q).stay (fun c v hc r=>k c v ?_ r) (fun c r=>by rw [y_a (nown c b r)];exact r) (fun c xs r=>by rw [y_a (ntup c xs r)];exact r) fun c ob xs r=>by rw [y_a (fun z=>by subst z;rw [r] at mu;exact mu)];exact r
   rcases hc with rfl | hc
   ·exact hbe
   ·rintro rfl
    rcases he with z | z
    ·exact nown c b hc z
    ·rw [hc] at z;cases z;exact hb rfl
end
structure Un(fs ex:List Addr)(H H':Hp)(h h':Heap):Prop where
 keep:∀ b o,h.get? b=some o->H b=none->b∉fs->b∉ex->h'.get? b=some o
 slot:∀ b o,h.get? b=some o->H b=none->b∈fs->b∉ex->∃ sl,h'.get? b=some { o with slots:=sl }
 free:∀ b o,h.get? b=some o->H b=none->b∉ex->H' b=none
 there:∀ b o,h.get? b=some o->b∉ex->∃ o',h'.get? b=some o'
 tups:∀ b xs,H b=some (.tup xs)->H' b=some (.tup xs)
 frzs:∀ b o u,H b=some (.frz o u)->H' b=some (.frz o u)
 tbls:∀ b p q,H b=some (.tbl p q)->H' b=some (.tbl p q)
section
variable {fs fs' ex ex':List Addr} {H H1 H2:Hp} {h h1 h2 h':Heap} {a x e:Addr} {o:HO}
theorem Un.any(u:Un fs ex H H1 h h1){b:Addr}{ob:Obj}(q:h.get? b=some ob)(n:H b=none)(hx:b∉ex):∃ sl,h1.get? b=some { ob with slots:=sl }:=by
 by_cases hb:b∈fs
 ·exact u.slot b ob q n hb hx
 ·exact ⟨ob.slots,u.keep b ob q n hb hx⟩
theorem Un.kept(k:∀ b u,h.get? b=some u->h'.get? b=some u):Un fs ex H H h h' :=
 ⟨fun b ob q _ _ _=>k b ob q,fun b ob q _ _ _=>⟨ob.slots,k b ob q⟩,fun _ _ _ n _=>n,fun b ob q _=>⟨ob,k b ob q⟩,fun _ _ q=>q,fun _ _ _ q=>q,fun _ _ _ q=>q⟩
theorem Un.refl:Un fs ex H H h h:=Un.kept fun _ _ q=>q
theorem Un.laid(k:∀ b u,h.get? b=some u->h'.get? b=some u)(hp:h.objs.size<=a)(hn:H a=none):Un fs ex H (upd H a o) h h' where
 keep:=fun b u q _ _ _=>k b u q
 slot:=fun b u q _ _ _=>⟨u.slots,k b u q⟩
 free:=fun b u q n _=>by rw [y_a (Nat.ne_of_lt (Nat.lt_of_lt_of_le (Heap.lt_size q) hp))];exact n
 there:=fun b u q _=>⟨u,k b u q⟩
 tups:=fun b xs q=>by rw [y_a (z_r q hn)];exact q
 frzs:=fun b u xs q=>by rw [y_a (z_r q hn)];exact q
 tbls:=fun b p q z=>by rw [y_a (z_r z hn)];exact z
theorem Un.write(mu:Mut (H x))(he:e=x\/H e=some (.own x))(k:∀ b u,b≠e->h.get? b=some u->h'.get? b=some u)(heo:∃ u,h'.get? e=some u):Un fs ex H (upd H x o) h h':=by
 have hx:∀ b,H b=none->b≠x:=fun b n z=>by subst z;rw [n] at mu;exact mu
 have hb:∀ b,H b=none->b≠e:=fun b n z=>by
  subst z
  rcases he with r | r
  ·exact hx b n r
  ·rw [n] at r;cases r
 have hm:∀ b u,H b=some u->¬Mut (some u)->b≠x:=fun b u q nm z=>by subst z;rw [q] at mu;exact nm mu
 refine ⟨fun b u q n _ _=>k b u (hb b n) q,fun b u q n _ _=>⟨u.slots,k b u (hb b n) q⟩,fun b u q n _=>by rw [y_a (hx b n)];exact n,fun b u q _=>?_,
  fun b xs q=>by rw [y_a (hm b _ q fun z=>z)];exact q,fun b u xs q=>by rw [y_a (hm b _ q fun z=>z)];exact q,fun b p q z=>by rw [y_a (hm b _ z fun y=>y)];exact z⟩
 by_cases hbe:b=e
 ·subst hbe;exact heo
 ·exact ⟨u,k b u hbe q⟩
end
def trk(h:Heap)(H:Hp):List Addr:=(List.range h.objs.size).filter fun a=>(H a).isSome
def hidT(h:Heap)(H:Hp):Heap:=PySem.W.hideAll h (trk h H)
theorem j_f(h:Heap)(H:Hp):(hidT h H).objs.size=h.objs.size:=PySem.W.hideAll_size _ _
theorem hidT_get{h:Heap}{H:Hp}{b:Addr}{o:Obj}(e:h.get? b=some o)(n:H b=none):(hidT h H).get? b=some o :=
 PySem.W.hideAll_get _ e fun hm=>by
  have q:(H b).isSome=true:=(List.mem_filter.mp hm).2
  rw [n] at q;simp at q
theorem of_hidT{h:Heap}{H:Hp}{b:Addr}{o:Obj}(e:(hidT h H).get? b=some o):h.get? b=some o/\H b=none:=by
 have e':h.get? b=some o:=PySem.W.of_hideAll (trk h H) e
 refine ⟨e',?_⟩
 cases q:H b with
 | none=>rfl
 | some x =>
  have hm:b∈trk h H:=List.mem_filter.mpr ⟨List.mem_range.mpr (Heap.lt_size e'),by simp [q]⟩
  have z:(hidT h H).get? b=none:=PySem.W.hideAll_none (trk h H) hm
  rw [z] at e;cases e
open PySem PySem.Spec PyProof.Rows
structure Mod(K:PySem.W.Frag)(mg:Str->Option Value)(base:Heap):Prop where
 kin:K.In base
 glob:base.Ns mainGlobals mg
 blt:∃ mb,base.Ns builtinsNs mb/\∀ x:Str,x ≠ "__name__" -> mb x=bootBuiltins x
 nolimit:base.NoLimit
structure Cx where
 prog:Program
 w:World
 K:PySem.W.Frag
 mg:Str->Option Value
 base:Heap
 A:Around
 N:List Str
 s₀:Shared
 H₀:Hp
 env:Env
 outer:List Env
 stack:List Env
 ex:List Addr
 fn:Str->Bool
 calm:Bool
 pn:List (Addr×Obj)
 xe:Value->Shared->Prop
def frs(l:List Env):List Addr:=l.filterMap (·.frame)
abbrev Cx.fs(X:Cx):List Addr:=frs X.outer
def Vis(sc:Scope)(x:Str):Prop:=sc.names.lookup x=some .local\/sc.names.lookup x=some .cell\/sc.names.lookup x=some .free
def Loc(sc:Scope)(x:Str):Prop:=sc.names.lookup x=some .local\/sc.names.lookup x=some .cell
def Look(env:Env)(h:Heap)(m:Str->Option Value)(x:Str)(u:Value):Prop :=
 (env.kindOf x=some .local/\m x=some u)\/((env.kindOf x=some .cell\/env.kindOf x=some .free)/\∃ c,env.cells.lookup x=some c/\h.IsCell c (some u))
structure Cx.Ok(X:Cx):Prop where
 mod:Mod X.K X.mg X.base
 kind:X.env.scope.kind = .function
 glob:X.env.globals=mainGlobals
 blt:X.env.builtins=builtinsNs
 above:X.s₀.heap.objs.size<=X.env.locals
 inj:∀ x y c,X.env.cells.lookup x=some c->X.env.cells.lookup y=some c->x=y
 has:∀ x,(X.env.kindOf x=some .cell\/X.env.kindOf x=some .free)->∃ c,X.env.cells.lookup x=some c
 cab:∀ x c,X.fn x=true->X.env.cells.lookup x=some c->X.s₀.heap.objs.size<=c
 hd:X.calm=true->X.A.handled=none
 frames:X.A.frames=some X.stack
 gd:X.A.guards=some []
 stk:X.stack=X.outer\/(X.stack=X.env::X.outer/\X.env.frame=some X.env.locals)
 exf:∀ b∈X.ex,b≠X.env.locals/\∀ x c,X.env.cells.lookup x=some c->c≠b
 bs:∀ b o,X.base.get? b=some o->X.s₀.heap.get? b=some o/\X.H₀ b=none
 bsz:X.base.objs.size<=X.s₀.heap.objs.size
 noex:∀ b o,X.base.get? b=some o->b∉X.ex
 exfs:∀ b∈X.ex,b∉X.fs
 funs:X.s₀.heap.FunFrames X.base X.outer
 frf:∀ b∈X.fs,X.H₀ b=none
structure Inv(X:Cx)(pins:List (Addr×Obj))(σ:List (Option V))(H:Hp)(s:Shared):Prop where
 ok:X.Ok
 os:s.os=X.s₀.os
 bare:AllBare s.gens
 base:Un X.fs X.ex X.H₀ H X.s₀.heap s.heap
 loc:∃ m,s.heap.Ns X.env.locals m/\∀ (i:Nat) (x:Str) (v:V),X.N[i]? = some x->σ[i]? = some (some v)->Vis X.env.scope x->∃ u,RelV v u/\Look X.env s.heap m x u
 cell:∀ x c,X.env.cells.lookup x=some c->∃ v,s.heap.IsCell c v
 free:H X.env.locals=none
 freeC:∀ x c,X.env.cells.lookup x=some c->H c=none
 pin:∀ p∈X.pn++pins,s.heap.get? p.1=some p.2/\H p.1=none/\p.1≠X.env.locals/\p.1∉X.fs/\∀ v,p.2.data ≠ .cell v
 hok:HOk X.prog X.w H s.heap
 len:σ.length=X.N.length
section
variable {X:Cx} {pins:List (Addr×Obj)} {σ:List (Option V)} {H H':Hp} {s:Shared} {h':Heap}
theorem Cx.Ok.nofr(ok:X.Ok){b:Addr}{o:Obj}(e:X.base.get? b=some o):b∉X.fs:=fun hb=>by
 have:=(ok.funs.mem hb).1
 rw [e] at this;cases this
theorem Inv.bs(I:Inv X pins σ H s):∀ b o,X.base.get? b=some o->s.heap.get? b=some o/\H b=none:=fun b o e =>
 ⟨I.base.keep b o (I.ok.bs b o e).1 (I.ok.bs b o e).2 (I.ok.nofr e) (I.ok.noex b o e),I.base.free b o (I.ok.bs b o e).1 (I.ok.bs b o e).2 (I.ok.noex b o e)⟩
theorem Inv.bk(I:Inv X pins σ H s):∀ b o,X.base.get? b=some o->s.heap.get? b=some o:=fun b o e=>(I.bs b o e).1
theorem Inv.mod(I:Inv X pins σ H s):Mod X.K X.mg X.base:=I.ok.mod
theorem Inv.kIn(I:Inv X pins σ H s):X.K.In s.heap:=I.ok.mod.kin.keeps I.bk
theorem Inv.lt(I:Inv X pins σ H s):X.env.locals<s.heap.objs.size:=let ⟨_,hn,_⟩:=I.loc;hn.lt
theorem Inv.sz(I:Inv X pins σ H s):X.s₀.heap.objs.size<=s.heap.objs.size:=Nat.le_trans I.ok.above (Nat.le_of_lt I.lt)
theorem Inv.nofs(I:Inv X pins σ H s){a:Addr}(h:s.heap.objs.size<=a):a∉X.fs:=fun hb=>by
 obtain ⟨_,o,ho,_⟩:=I.ok.funs.mem hb
 exact absurd (Nat.lt_of_lt_of_le (Heap.lt_size ho) (Nat.le_trans I.sz h)) (Nat.lt_irrefl _)
theorem Inv.cne(I:Inv X pins σ H s):∀ x c,X.env.cells.lookup x=some c->c≠X.env.locals:=fun x c e z=>by
 obtain ⟨v,o,ho,hd⟩:=I.cell x c e
 obtain ⟨m,⟨o',es,ep,ho',hd',_⟩,_⟩:=I.loc
 rw [z,ho'] at ho;cases ho;rw [hd'] at hd;cases hd
theorem Inv.funs(I:Inv X pins σ H s):s.heap.FunFrames X.base X.outer:=by
 have all:∀ (l:List Env),(∀ b∈frs l,b∈X.fs)->X.s₀.heap.FunFrames X.base l->s.heap.FunFrames X.base l:=by
  intro l
  induction l with
  | nil=>intro _ _;trivial
  | cons env r ih =>
   intro hs hl
   obtain ⟨hk,⟨L,o,hf,hn,ho,hd⟩,hr⟩:=hl
   have hL:L∈X.fs:=hs L (by unfold frs;rw [List.filterMap_cons,hf];exact List.mem_cons_self)
   obtain ⟨sl,e⟩:=I.base.slot L o ho (I.ok.frf L hL) hL fun z=>I.ok.exfs L z hL
   exact ⟨hk,⟨L,_,hf,hn,e,hd⟩,ih (fun b hb=>hs b (by unfold frs;rw [List.filterMap_cons,hf];exact List.mem_cons_of_mem _ hb)) hr⟩
 exact all X.outer (fun _ hb=>hb) I.ok.funs
theorem Inv.stack(I:Inv X pins σ H s):s.heap.FunFrames X.base X.stack:=by
 rcases I.ok.stk with e | ⟨e,hf⟩
 ·rw [e];exact I.funs
 ·rw [e]
  obtain ⟨m,hn,_⟩:=I.loc
  refine .cons (by rw [I.ok.kind];decide) hf hn ?_ I.funs
  exact Heap.get?_none_of_le (Nat.le_trans I.ok.bsz I.ok.above)
theorem Inv.stkSub(I:Inv X pins σ H s):∀ b∈frs X.stack,b∈X.env.locals::X.fs:=fun b hb=>by
 rcases I.ok.stk with e | ⟨e,hf⟩
 ·rw [e] at hb;exact List.mem_cons_of_mem _ hb
 ·rw [e] at hb
  unfold frs at hb
  rw [List.filterMap_cons,hf] at hb
  exact hb
theorem Inv.stkFree(I:Inv X pins σ H s):∀ b∈frs X.stack,H b=none:=fun b hb=>by
 rcases List.mem_cons.mp (I.stkSub b hb) with e | hb
 ·rw [e];exact I.free
 ·obtain ⟨_,o,ho,_⟩:=I.ok.funs.mem hb
  exact I.base.free b o ho (I.ok.frf b hb) fun z=>I.ok.exfs b z hb
theorem Inv.step{g':Array GenState}{t':Nat}{d':Drawn}{ch:List Addr}(I:Inv X pins σ H s)
  (hch:∀ b∈ch,(b∈X.ex\/X.s₀.heap.objs.size<=b)/\b≠X.env.locals/\(∀ x c,X.env.cells.lookup x=some c->c≠b)/\∀ p∈X.pn++pins,p.1≠b)
  (keep:∀ b o,b≠X.env.locals->b∉X.fs->b∉ch->s.heap.get? b=some o->H b=none->h'.get? b=some o)
  (slot:∀ b o,b≠X.env.locals->b∈X.fs->b∉ch->s.heap.get? b=some o->H b=none->∃ sl,h'.get? b=some { o with slots:=sl }) (free:∀ b o,b∉ch->s.heap.get? b=some o->H b=none->H' b=none)
  (there:∀ b o,b∉ch->s.heap.get? b=some o->∃ o',h'.get? b=some o')
  (tups:∀ b xs,H b=some (.tup xs)->H' b=some (.tup xs)) (frzs:∀ b o u,H b=some (.frz o u)->H' b=some (.frz o u)) (tbls:∀ b p q,H b=some (.tbl p q)->H' b=some (.tbl p q))
  (ns:∀ m,s.heap.Ns X.env.locals m->h'.Ns X.env.locals m) (hok:HOk X.prog X.w H' h') (hg:AllBare g') :
  Inv X pins σ H' { s with heap:=h',gens:=g',drawn:=d',toks:=t' }:=by
 have neL:∀ b o,X.s₀.heap.get? b=some o->b≠X.env.locals:=fun b o e=>Nat.ne_of_lt (Nat.lt_of_lt_of_le (Heap.lt_size e) I.ok.above)
 have neC:∀ b o,X.s₀.heap.get? b=some o->b∉X.ex->b∉ch:=fun b o e hx hb=>by
  rcases (hch b hb).1 with z | z
  ·exact hx z
  ·exact absurd (Nat.lt_of_lt_of_le (Heap.lt_size e) z) (Nat.lt_irrefl _)
 have cellK:∀ x c,X.env.cells.lookup x=some c->∀ v,s.heap.IsCell c v->h'.IsCell c v:=fun x c e v ⟨o,ho,hd⟩=>by
  have nch:c∉ch:=fun z=>(hch c z).2.2.1 x c e rfl
  by_cases hc:c∈X.fs
  ·obtain ⟨sl,q⟩:=slot c o (I.cne x c e) hc nch ho (I.freeC x c e)
   exact ⟨_,q,hd⟩
  ·exact ⟨o,keep c o (I.cne x c e) hc nch ho (I.freeC x c e),hd⟩
 refine ⟨I.ok,I.os,hg,⟨fun b o e n hb hx=>?_,fun b o e n hb hx=>?_,fun b o e n hx=>?_,fun b o e hx=>?_,fun b xs e=>tups b xs (I.base.tups b xs e),fun b o xs e=>frzs b o xs (I.base.frzs b o xs e),fun b p q e=>tbls b p q (I.base.tbls b p q e)⟩,?_,fun x c e=>?_,?_,fun x c e=>?_,fun p hp=>?_,hok,I.len⟩
 ·exact keep b o (neL b o e) hb (neC b o e hx) (I.base.keep b o e n hb hx) (I.base.free b o e n hx)
 ·obtain ⟨sl,e1⟩:=I.base.slot b o e n hb hx
  obtain ⟨sl',e2⟩:=slot b _ (neL b o e) hb (neC b o e hx) e1 (I.base.free b o e n hx)
  exact ⟨sl',e2⟩
 ·obtain ⟨o',e1⟩:=I.base.there b o e hx
  exact free b o' (neC b o e hx) e1 (I.base.free b o e n hx)
 ·obtain ⟨o',e1⟩:=I.base.there b o e hx
  exact there b o' (neC b o e hx) e1
 ·obtain ⟨m,hn,hl⟩:=I.loc
  refine ⟨m,ns m hn,fun i x v e1 e2 e3=>?_⟩
  obtain ⟨u,r,l⟩:=hl i x v e1 e2 e3
  refine ⟨u,r,?_⟩
  rcases l with l | ⟨k,c,e,z⟩
  ·exact .inl l
  ·exact .inr ⟨k,c,e,cellK x c e _ z⟩
 ·obtain ⟨v,z⟩:=I.cell x c e
  exact ⟨v,cellK x c e v z⟩
 ·obtain ⟨m,⟨o,_,_,ho,_⟩,_⟩:=I.loc
  exact free _ o (fun z=>(hch _ z).2.1 rfl) ho I.free
 ·obtain ⟨v,o,ho,hd⟩:=I.cell x c e
  exact free c o (fun z=>(hch c z).2.2.1 x c e rfl) ho (I.freeC x c e)
 ·obtain ⟨e,n,ne,nf,d⟩:=I.pin p hp
  have nch:p.1∉ch:=fun z=>(hch p.1 z).2.2.2 p hp rfl
  exact ⟨keep p.1 p.2 ne nf nch e n,free p.1 p.2 nch e n,ne,nf,d⟩
theorem Inv.un{t':Nat}(I:Inv X pins σ H s)(u:Un X.fs [] H H' s.heap h')(hok:HOk X.prog X.w H' h'):Inv X pins σ H' { s with heap:=h',toks:=t' }:=by
 obtain ⟨m,⟨o,es,ep,ho,r⟩,_⟩:=id I.loc
 obtain ⟨sl,hL⟩:=u.any ho I.free (by simp)
 exact I.step (g':=s.gens) (d':=s.drawn) (ch:=[]) (fun _ z=>nomatch z) (fun b o _ hb _ e n=>u.keep b o e n hb (by simp)) (fun b o _ hb _ e n=>u.slot b o e n hb (by simp)) (fun b o _ e n=>u.free b o e n (by simp)) (fun b o _ e=>u.there b o e (by simp)) u.tups u.frzs u.tbls (fun m' hm=>by
  obtain ⟨o',es',ep',ho',r'⟩:=hm
  rw [ho] at ho';cases ho'
  exact ⟨_,es',ep',hL,r'⟩) hok I.bare
theorem Inv.call{g':Array GenState}{t':Nat}{d':Drawn}{ch:List Addr}(I:Inv X pins σ H s)(u:Un (frs X.stack) ch H H' s.heap h')(hok:HOk X.prog X.w H' h')(hg:AllBare g')
  (hch:∀ b∈ch,(b∈X.ex\/X.s₀.heap.objs.size<=b)/\b≠X.env.locals/\(∀ x c,X.env.cells.lookup x=some c->c≠b)/\∀ p∈X.pn++pins,p.1≠b) :
  Inv X pins σ H' { s with heap:=h',gens:=g',drawn:=d',toks:=t' }:=by
 obtain ⟨m,⟨o,es,ep,ho,r⟩,_⟩:=id I.loc
 obtain ⟨sl,hL⟩:=u.any ho I.free fun z=>(hch _ z).2.1 rfl
 exact I.step (ch:=ch) hch (fun b o hL hb hc e n=>u.keep b o e n (fun z=>(List.mem_cons.mp (I.stkSub b z)).elim hL hb) hc) (fun b o _ _ hc e n=>u.any e n hc) (fun b o hc e n=>u.free b o e n hc) (fun b o hc e=>u.there b o e hc) u.tups u.frzs u.tbls (fun m' hm=>by
  obtain ⟨o',es',ep',ho',r'⟩:=hm
  rw [ho] at ho';cases ho'
  exact ⟨_,es',ep',hL,r'⟩) hok hg
theorem Inv.turned{t':Nat}{it:Addr}(I:Inv X pins σ H s)(k:∀ b o,b≠it->s.heap.get? b=some o->h'.get? b=some o)(hn:H it=none)(hL:it≠X.env.locals)
  (h1:it∈X.ex\/X.s₀.heap.objs.size<=it) (h2:∀ x c,X.env.cells.lookup x=some c->c≠it) (h3:∀ p∈X.pn++pins,p.1≠it):Inv X pins σ H { s with heap:=h',toks:=t' }:=by
 have nit:∀ b u,H b=some u->b≠it:=fun b u e z=>by rw [z,hn] at e;cases e
 refine I.step (g':=s.gens) (d':=s.drawn) (ch:=[it]) (fun b hb=>?_) (fun b o _ _ hc e _=>k b o (fun z=>hc (by simp [z])) e) (fun b o _ _ hc e _=>⟨o.slots,k b o (fun z=>hc (by simp [z])) e⟩) (fun _ _ _ _ n=>n)
  (fun b o hc e=>⟨o,k b o (fun z=>hc (by simp [z])) e⟩) (fun _ _ e=>e) (fun _ _ _ e=>e) (fun _ _ _ e=>e) (fun m hm=>?_) (fun b u e=>?_) I.bare
 ·have e:b=it:=by simpa using hb
  subst e
  exact ⟨h1,hL,h2,h3⟩
 ·obtain ⟨o,es,ep,ho,r⟩:=hm
  exact ⟨o,es,ep,k _ o (Ne.symm hL) ho,r⟩
 ·refine (I.hok b u e).stay (fun c v hc q=>k c v ?_ q) (fun _ q=>q) (fun _ _ q=>q) fun _ _ _ q=>q
  rcases hc with z | z
  ·rw [z];exact nit b u e
  ·exact nit c _ z
theorem Inv.tok(I:Inv X pins σ H s)(t:Nat):Inv X pins σ H { s with toks:=t }:=I.un (h':=s.heap) (t':=t) Un.refl I.hok
theorem Inv.kept{t':Nat}(I:Inv X pins σ H s)(k:∀ b u,s.heap.get? b=some u->h'.get? b=some u):Inv X pins σ H { s with heap:=h',toks:=t' }:=I.un (Un.kept k) (I.hok.kept k)
theorem Inv.laid{a:Addr}{o:HO}{t':Nat}(I:Inv X pins σ H s)(k:∀ b u,s.heap.get? b=some u->h'.get? b=some u)(hp:s.heap.objs.size<=a)(new:ObjOk X.prog X.w (upd H a o) h' a o) :
  Inv X pins σ (upd H a o) { s with heap:=h',toks:=t' }:=I.un (Un.laid k hp (I.hok.fresh hp)) (I.hok.laid k hp new)
theorem Inv.write{x e:Addr}{o:HO}{t':Nat}(I:Inv X pins σ H s)(mu:Mut (H x))(he:e=x\/H e=some (.own x))(k:∀ b u,b≠e->s.heap.get? b=some u->h'.get? b=some u)(heo:∃ u,h'.get? e=some u)
  (new:ObjOk X.prog X.w (upd H x o) h' x o):Inv X pins σ (upd H x o) { s with heap:=h',toks:=t' }:=I.un (Un.write mu he k heo) (I.hok.write mu he k heo new)
theorem Inv.pins_of{pins':List (Addr×Obj)}(I:Inv X pins σ H s)(h:∀ p∈pins',s.heap.get? p.1=some p.2/\H p.1=none/\p.1≠X.env.locals/\p.1∉X.fs/\∀ v,p.2.data ≠ .cell v):Inv X pins' σ H s :=
 ⟨I.ok,I.os,I.bare,I.base,I.loc,I.cell,I.free,I.freeC,fun p hp=>(List.mem_append.mp hp).elim (fun z=>I.pin p (List.mem_append_left _ z)) (h p),I.hok,I.len⟩
theorem m_j{N:List Str}(hN:N.Nodup){i j:Nat}{x:Str}(a:N[i]? = some x)(b:N[j]? = some x):i=j:=by
 obtain ⟨h1,e1⟩:=List.getElem?_eq_some_iff.mp a
 obtain ⟨h2,e2⟩:=List.getElem?_eq_some_iff.mp b
 exact (List.getElem_inj hN).mp (e1.trans e2.symm)
theorem i_x{M:Model}{A:Around}{E:Value->Shared->Prop}{i:Nat}{x:Str}{v:V}{u:Value}{Q:Unit->Shared->Prop}(I:Inv X pins σ H s)(hN:X.N.Nodup)(hi:X.N[i]? = some x)(hx:Loc X.env.scope x)(r:RelV v u)
  (h:∀ s',Inv X pins (σ.set i (some v)) H s'->(∃ a,Heap.SameBut a s.heap s'.heap/\(a=X.env.locals\/X.env.cells.lookup x=some a))->Q () s') (hf:X.fn x=true\/X.env.scope.names.lookup x=some .local:=by first | exact .inl rfl | exact .inr rfl | assumption):wpAny M A (storeName X.env x u) Q E s:=by
 obtain ⟨m,hn,hl⟩:=id I.loc
 have hcls:(X.env.scope.kind == .class || (X.env.scope.kind == .module&&X.env.locals != X.env.globals))=false:=by rw [I.ok.kind];rfl
 have hiσ:i<σ.length:=by rw [I.len];exact (List.getElem?_eq_some_iff.mp hi).1
 have cne:=I.cne
 have tracked:∀ {a:Addr} {h':Heap},(∃ o,s.heap.get? a=some o/\H a=none)->Heap.SameBut a s.heap h'->HOk X.prog X.w H h':=fun {a h'} ha hs b ob e=>by
  obtain ⟨_,_,hfree⟩:=ha
  refine (I.hok b ob e).stay (fun c w' hc q=>(hs.2 c ?_).trans q) (fun _ q=>q) (fun _ _ q=>q) fun _ _ _ q=>q
  rintro rfl
  rcases hc with rfl | hc
  ·rw [hfree] at e;cases e
  ·rw [hfree] at hc;cases hc
 rcases hx with hk | hk
 ·refine wpAny_storeName_local hk hn (fun h' hn' hs=>?_) hcls
  obtain ⟨oL,_,_,hoL,_⟩:=id hn
  refine h _ ⟨I.ok,I.os,I.bare,⟨fun b o e n hb hx=>?_,fun b o e n hb hx=>?_,I.base.free,fun b o e hx=>?_,I.base.tups,I.base.frzs,I.base.tbls⟩,⟨_,hn',fun j y v' e1 e2 e3=>?_⟩,fun y c e=>?_,I.free,I.freeC,fun p hp=>?_,tracked ⟨oL,hoL,I.free⟩ hs,by simpa using I.len⟩ ⟨_,hs,.inl rfl⟩
  ·exact (hs.2 b (Nat.ne_of_lt (Nat.lt_of_lt_of_le (Heap.lt_size e) I.ok.above))).trans (I.base.keep b o e n hb hx)
  ·obtain ⟨sl,e1⟩:=I.base.slot b o e n hb hx
   exact ⟨sl,(hs.2 b (Nat.ne_of_lt (Nat.lt_of_lt_of_le (Heap.lt_size e) I.ok.above))).trans e1⟩
  ·obtain ⟨o',e1⟩:=I.base.there b o e hx
   exact ⟨o',(hs.2 b (Nat.ne_of_lt (Nat.lt_of_lt_of_le (Heap.lt_size e) I.ok.above))).trans e1⟩
  ·by_cases hj:j=i
   ·subst hj
    rw [hi] at e1;cases e1
    rw [List.getElem?_set_self hiσ] at e2
    cases e2
    exact ⟨u,r,.inl ⟨hk,by simp⟩⟩
   ·rw [List.getElem?_set_ne (Ne.symm hj)] at e2
    obtain ⟨u',r',q⟩:=hl j y v' e1 e2 e3
    refine ⟨u',r',?_⟩
    rcases q with ⟨k,e⟩ | ⟨k,c,e,z⟩
    ·refine .inl ⟨k,?_⟩
     have:y≠x:=fun e=>hj (m_j hN e1 (e▸hi))
     simp [this,e]
    ·exact .inr ⟨k,c,e,z.sameBut hs (cne y c e)⟩
  ·obtain ⟨w',z⟩:=I.cell y c e
   exact ⟨w',z.sameBut hs (cne y c e)⟩
  ·obtain ⟨e,n,ne,nf,d⟩:=I.pin p hp
   exact ⟨(hs.2 p.1 ne).trans e,n,ne,nf,d⟩
 ·have hfn:X.fn x=true:=by
   rcases hf with z | z
   ·exact z
   ·rw [z] at hk;cases hk
  obtain ⟨c,hc⟩:=I.ok.has x (.inl hk)
  obtain ⟨w',z⟩:=I.cell x c hc
  refine wpAny_storeName_cell I.ok.kind hk hc z (fun h' hc' hs=>?_)
  obtain ⟨oc,hoc,hocd⟩:=id z
  refine h { s with heap:=h' } ⟨I.ok,I.os,I.bare,⟨fun b o e n hb hx=>?_,fun b o e n hb hx=>?_,I.base.free,fun b o e hx=>?_,I.base.tups,I.base.frzs,I.base.tbls⟩,⟨m,hn.sameBut hs (Ne.symm (cne x c hc)),fun j y v' e1 e2 e3=>?_⟩,fun y c' e=>?_,I.free,I.freeC,fun p hp=>?_,tracked ⟨oc,hoc,I.freeC x c hc⟩ hs,by simpa using I.len⟩ ⟨c,hs,.inr hc⟩
  ·exact (hs.2 b (Nat.ne_of_lt (Nat.lt_of_lt_of_le (Heap.lt_size e) (I.ok.cab x c hfn hc)))).trans (I.base.keep b o e n hb hx)
  ·obtain ⟨sl,e1⟩:=I.base.slot b o e n hb hx
   exact ⟨sl,(hs.2 b (Nat.ne_of_lt (Nat.lt_of_lt_of_le (Heap.lt_size e) (I.ok.cab x c hfn hc)))).trans e1⟩
  ·obtain ⟨o',e1⟩:=I.base.there b o e hx
   exact ⟨o',(hs.2 b (Nat.ne_of_lt (Nat.lt_of_lt_of_le (Heap.lt_size e) (I.ok.cab x c hfn hc)))).trans e1⟩
  ·by_cases hj:j=i
   ·subst hj
    rw [hi] at e1;cases e1
    rw [List.getElem?_set_self hiσ] at e2
    cases e2
    exact ⟨u,r,.inr ⟨.inl hk,c,hc,hc'⟩⟩
   ·rw [List.getElem?_set_ne (Ne.symm hj)] at e2
    obtain ⟨u',r',q⟩:=hl j y v' e1 e2 e3
    refine ⟨u',r',?_⟩
    rcases q with q | ⟨k,c',e,z'⟩
    ·exact .inl q
    ·refine .inr ⟨k,c',e,z'.sameBut hs ?_⟩
     rintro rfl
     exact hj (m_j hN e1 (I.ok.inj _ _ _ e hc▸hi))
  ·by_cases hcc:c'=c
   ·subst hcc;exact ⟨_,hc'⟩
   ·obtain ⟨w2,z2⟩:=I.cell y c' e
    exact ⟨w2,z2.sameBut hs hcc⟩
  ·obtain ⟨e,n,ne,nf,d⟩:=I.pin p hp
   refine ⟨(hs.2 p.1 ?_).trans e,n,ne,nf,d⟩
   intro q
   rw [q,hoc] at e
   have q':oc=p.2:=Option.some.inj e
   exact d w' (by rw [<-q'];exact hocd)
theorem l_k{M:Model}{A:Around}{E:Value->Shared->Prop}{i:Nat}{x:Str}{v:V}{u:Value}{Q:Unit->Shared->Prop}(I:Inv X pins σ H s)(hN:X.N.Nodup)(hi:X.N[i]? = some x)(hx:Loc X.env.scope x)(r:RelV v u)
  (h:∀ s',Inv X pins (σ.set i (some v)) H s'->Q () s') (hf:X.fn x=true\/X.env.scope.names.lookup x=some .local:=by first | exact .inl rfl | exact .inr rfl | assumption):wpAny M A (storeName X.env x u) Q E s :=
 i_x I hN hi hx r (fun s' I' _=>h s' I') hf
theorem Inv.call'{s':Shared}{ch:List Addr}(I:Inv X pins σ H s)(ho:s'.os=s.os)(u:Un (frs X.stack) ch H H' s.heap s'.heap)(hok:HOk X.prog X.w H' s'.heap)(hg:AllBare s'.gens)
  (hch:∀ b∈ch,(b∈X.ex\/X.s₀.heap.objs.size<=b)/\b≠X.env.locals/\(∀ x c,X.env.cells.lookup x=some c->c≠b)/\∀ p∈X.pn++pins,p.1≠b):Inv X pins σ H' s':=by
 obtain ⟨h',g',d',t',o'⟩:=s'
 have e:o'=s.os:=ho
 subst e
 exact I.call (g':=g') (t':=t') (d':=d') u hok hg hch
end
abbrev XK:=Value->Option Addr->Hp->Prop
abbrev St:=List (Option V)
abbrev VK:=V->Hp->Prop
abbrev TE:=St->Hp->VK->Prop
abbrev TT:=St->Hp->(Bool->Hp->Prop)->Prop
abbrev TA:=St->Hp->(List V->Hp->Prop)->Prop
structure Ends where
 nx:St->Hp->Prop
 rt:VK
 bk:St->Hp->Prop:=fun _ _=>False
 ct:St->Hp->Prop:=fun _ _=>False
abbrev TS:=Ends->St->Hp->Prop
def EP(X:Cx)(pins:List (Addr×Obj))(σ:St)(Q:VK)(u:Value)(s':Shared):Prop:=∃ v H',Inv X pins σ H' s'/\RelV v u/\Q v H'
def TP(X:Cx)(pins:List (Addr×Obj))(σ:St)(Q:Bool->Hp->Prop)(b:Bool)(s':Shared):Prop:=∃ H',Inv X pins σ H' s'/\Q b H'
def AP(X:Cx)(pins:List (Addr×Obj))(σ:St)(Q:List V->Hp->Prop)(us:List Value)(s':Shared):Prop:=∃ vs H',Inv X pins σ H' s'/\Vals vs us/\Q vs H'
def SP(X:Cx)(pins:List (Addr×Obj))(D:Ends)(f:Flow)(s':Shared):Prop :=
 match f with
 | .next=>∃ σ' H',Inv X pins σ' H' s'/\D.nx σ' H'
 | .brk=>∃ σ' H',Inv X pins σ' H' s'/\D.bk σ' H'
 | .cont=>∃ σ' H',Inv X pins σ' H' s'/\D.ct σ' H'
 | .ret u=>∃ v σ' H',Inv X pins σ' H' s'/\RelV v u/\D.rt v H'
def PE(X:Cx)(e:Expr)(t:TE):Prop :=
 ∀ (pins:List (Addr×Obj)) (s:Shared) (σ:St) (H:Hp) (Q:VK),Inv X pins σ H s->t σ H Q->wpAny (model X.prog X.w) X.A (eval e X.env) (EP X pins σ Q) X.xe s
def PT(X:Cx)(e:Expr)(t:TT):Prop :=
 ∀ (pins:List (Addr×Obj)) (s:Shared) (σ:St) (H:Hp) (Q:Bool->Hp->Prop),Inv X pins σ H s->t σ H Q->wpAny (model X.prog X.w) X.A (isTrue e X.env (eval e X.env)) (TP X pins σ Q) X.xe s
def PW(X:Cx)(e:Expr)(t:TT):Prop :=
 ∀ (whole:Sem Value) (pins:List (Addr×Obj)) (s:Shared) (σ:St) (H:Hp) (Q:Bool->Hp->Prop),Inv X pins σ H s->t σ H Q->wpAny (model X.prog X.w) X.A (isTrue e X.env whole) (TP X pins σ Q) X.xe s
theorem PW.pt{X:Cx}{e:Expr}{t:TT}(h:PW X e t):PT X e t:=h _
def PA(X:Cx)(es:List Expr)(t:TA):Prop :=
 ∀ (pos:Pos) (pins:List (Addr×Obj)) (s:Shared) (σ:St) (H:Hp) (Q:List V->Hp->Prop),Inv X pins σ H s->t σ H Q->wpAny (model X.prog X.w) X.A (spliced (backTo pos (starEach es X.env))) (AP X pins σ Q) X.xe s
def PS(X:Cx)(st:Stmt)(t:TS):Prop :=
 ∀ (pins:List (Addr×Obj)) (s:Shared) (σ:St) (H:Hp) (D:Ends),Inv X pins σ H s->t D σ H->wpAny (model X.prog X.w) X.A (exec st X.env) (SP X pins D) X.xe s
def PSs(X:Cx)(st:List Stmt)(t:TS):Prop :=
 ∀ (pins:List (Addr×Obj)) (s:Shared) (σ:St) (H:Hp) (D:Ends),Inv X pins σ H s->t D σ H->wpAny (model X.prog X.w) X.A (execs st X.env) (SP X pins D) X.xe s
theorem thn{α:Type}{t:Sem α}{Q Q':α->Shared->Prop}{M:Model}{A:Around}{E:Value->Shared->Prop}{s:Shared}(h:wpAny M A t Q E s)(hQ:∀ a s,Q a s->Q' a s):wpAny M A t Q' E s:=wpAny_mono h hQ fun _ _ x=>x
open PySem PySem.Spec PyProof.Rows
section
variable {X:Cx}
def tVar(i:Nat):TE:=fun σ H Q=>∃ v,σ[i]? = some (some v)/\Q v H
def tC(v:V):TE:=fun _ H Q=>Q v H
theorem pe_var{i:Nat}{x:Str}{pos:Pos}(hN:X.N[i]? = some x)(hv:Vis X.env.scope x)(hd:(x == ("__debug__" : Str))=false:=by decide)(hcd:(x == ("__classdict__" : Str))=false:=by decide):PE X (.Name x pos) (tVar i):=by
 intro pins s σ H Q I h
 obtain ⟨v,e,h⟩:=h
 obtain ⟨m,hn,hl⟩:=I.loc
 obtain ⟨u,r,l⟩:=hl i x v hN e hv
 have fin:EP X pins σ Q u s:=⟨v,H,I,r,h⟩
 rcases l with ⟨hk,hm⟩ | ⟨hk,c,hc,hcell⟩
 ·exact wpAny_Name (wpAny_loadName_local I.ok.kind hk hn hm fin) hd
 ·rcases hk with hk | hk
  ·exact wpAny_Name (wpAny_loadName_cell I.ok.kind hk hc hcell fin) hd
  ·exact wpAny_Name (wpAny_loadName_free I.ok.kind hk hc hcell fin hcd) hd
theorem z_f{i j pos}:PE X (.Constant (.int i) j pos) (tC (.int i)):=fun _ _ _ H _ I h=>wpAny_Constant_int ⟨.int i,H,I.tok _,⟨_,rfl⟩,h⟩
theorem v_p{b j pos}:PE X (.Constant (.bool b) j pos) (tC (.bl b)):=fun _ _ _ H _ I h=>Constant_bool ⟨.bl b,H,I,rfl,h⟩
theorem pe_non{j pos}:PE X (.Constant .none j pos) (tC .non):=fun _ _ _ H _ I h=>Constant_none ⟨.non,H,I,rfl,h⟩
theorem z_k{x j pos}:PE X (.Constant (.str x) j pos) (tC (.str x)):=fun _ _ _ H _ I h=>Calls.Constant_str ⟨.str x,H,I.tok _,⟨_,rfl⟩,h⟩
def Gl(X:Cx)(x:Str):Prop:=X.env.kindOf x=some .globalImplicit
theorem j_n{E:Value->Shared->Prop}{pins:List (Addr×Obj)}{s:Shared}{σ:St}{H:Hp}{x:Str}{u:Value}{pos:Pos}{Q:Value->Shared->Prop}(I:Inv X pins σ H s)(hg:Gl X x)(hm:X.mg x=some u)(h:Q u s)
  (hd:(x == ("__debug__" : Str))=false:=by decide):wpAny (model X.prog X.w) X.A (eval (.Name x pos) X.env) Q E s :=
 Calls.Name_function_global I.ok.kind hg (Calls.loadGlobal_global (by rw [I.ok.glob];exact I.mod.glob.keeps I.bk) hm h) hd
theorem q_h{E:Value->Shared->Prop}{pins:List (Addr×Obj)}{s:Shared}{σ:St}{H:Hp}{x:Str}{u:Value}{pos:Pos}{Q:Value->Shared->Prop}(I:Inv X pins σ H s)(hg:Gl X x)(hm:X.mg x=none)(hv:bootBuiltins x=some u)(h:Q u s)
  (hn:x ≠ "__name__" := by decide) (hd:(x == ("__debug__" : Str))=false:=by decide):wpAny (model X.prog X.w) X.A (eval (.Name x pos) X.env) Q E s:=by
 obtain ⟨mb,h1,h2⟩:=I.mod.blt
 exact Calls.Name_function_global I.ok.kind hg (Calls.loadGlobal_builtin (by rw [I.ok.glob];exact I.mod.glob.keeps I.bk) hm (by rw [I.ok.blt];exact h1.keeps I.bk) ((h2 x hn).trans hv) h) hd
theorem y_y{x:Str}{v:V}{u:Value}{pos:Pos}(hg:Gl X x)(hm:X.mg x=some u)(r:RelV v u)(hd:(x == ("__debug__" : Str))=false:=by decide):PE X (.Name x pos) (tC v) :=
 fun _ _ _ H _ I h=>j_n I hg hm ⟨v,H,I,r,h⟩ hd
theorem y_r{x:Str}{v:V}{u:Value}{pos:Pos}(hg:Gl X x)(hm:X.mg x=none)(hv:bootBuiltins x=some u)(r:RelV v u)(hn:x ≠ "__name__" := by decide)(hd:(x == ("__debug__" : Str))=false:=by decide):PE X (.Name x pos) (tC v) :=
 fun _ _ _ H _ I h=>q_h I hg hm hv ⟨v,H,I,r,h⟩ hn hd
variable {a b:Expr} {ta tb:TE} {pos:Pos}
variable {tA tB':TT} {rest:List Expr}
def tAnd(t u:TT):TT:=fun σ H Q=>t σ H fun c H1=>if c=true then u σ H1 Q else Q false H1
def tOr(t u:TT):TT:=fun σ H Q=>t σ H fun c H1=>if c=true then Q true H1 else u σ H1 Q
def tNot(t:TT):TT:=fun σ H Q=>t σ H fun c H1=>Q (!c) H1
theorem r_h(ha:PT X a tA):PW X (.BoolOp .And [a] pos) tA:=by
 intro wh pins s σ H Q I h
 refine isTrue_and (thn (ha pins s σ H Q I h) fun c s1 e=>?_)
 cases c with
 | true=>exact isTrue_and_nil e
 | false=>exact e
theorem w_j(ha:PT X a tA):PW X (.BoolOp .Or [a] pos) tA:=by
 intro wh pins s σ H Q I h
 refine isTrue_or (thn (ha pins s σ H Q I h) fun c s1 e=>?_)
 cases c with
 | false=>exact isTrue_or_nil e
 | true=>exact e
theorem r_g(ha:PT X a tA)(hb:PW X (.BoolOp .And (b::rest) pos) tB'):PW X (.BoolOp .And (a::b::rest) pos) (tAnd tA tB'):=by
 intro wh pins s σ H Q I h
 refine isTrue_and (thn (ha pins s σ H _ I h) fun c s1 ⟨H1,I1,q1⟩=>?_)
 cases c with
 | true=>exact hb wh pins s1 σ H1 Q I1 q1
 | false=>exact ⟨H1,I1,q1⟩
theorem v_i(ha:PT X a tA)(hb:PW X (.BoolOp .Or (b::rest) pos) tB'):PW X (.BoolOp .Or (a::b::rest) pos) (tOr tA tB'):=by
 intro wh pins s σ H Q I h
 refine isTrue_or (thn (ha pins s σ H _ I h) fun c s1 ⟨H1,I1,q1⟩=>?_)
 cases c with
 | true=>exact ⟨H1,I1,q1⟩
 | false=>exact hb wh pins s1 σ H1 Q I1 q1
theorem x_a(ha:PT X a tA):PT X (.UnaryOp .Not a pos) (tNot tA):=by
 intro pins s σ H Q I h
 exact isTrue_not (ha pins s σ H (fun c H1=>Q (!c) H1) I h)
def tAndV(ta tb:TE):TE:=fun σ H Q=>ta σ H fun x H1=>∃ c,x = .bl c/\if c=true then tb σ H1 Q else Q (.bl false) H1
def tOrV(ta tb:TE):TE:=fun σ H Q=>ta σ H fun x H1=>∃ c,x = .bl c/\if c=true then Q (.bl true) H1 else tb σ H1 Q
def tNotV(ta:TE):TE:=fun σ H Q=>ta σ H fun x H1=>∃ c,x = .bl c/\Q (.bl (!c)) H1
theorem x_r{op}{t:TE}(h:PE X a t):PE X (.BoolOp op [a] pos) t:=fun pins s σ H Q I hw=>BoolOp_one (h pins s σ H Q I hw)
theorem x_h(ha:PE X a ta)(hb:PE X (.BoolOp .And (b::rest) pos) tb):PE X (.BoolOp .And (a::b::rest) pos) (tAndV ta tb):=by
 intro pins s σ H Q I h
 refine BoolOp_and (thn (ha pins s σ H _ I h) fun v s1 ⟨x,H1,I1,r1,q1⟩=>?_)
 obtain ⟨c,rfl,q1⟩:=q1
 cases r1
 refine wpAny_truthy_bool ?_
 cases c with
 | true=>exact hb pins s1 σ H1 Q I1 q1
 | false=>exact ⟨.bl false,H1,I1,rfl,q1⟩
theorem pe_or(ha:PE X a ta)(hb:PE X (.BoolOp .Or (b::rest) pos) tb):PE X (.BoolOp .Or (a::b::rest) pos) (tOrV ta tb):=by
 intro pins s σ H Q I h
 refine BoolOp_or (thn (ha pins s σ H _ I h) fun v s1 ⟨x,H1,I1,r1,q1⟩=>?_)
 obtain ⟨c,rfl,q1⟩:=q1
 cases r1
 refine wpAny_truthy_bool ?_
 cases c with
 | false=>exact hb pins s1 σ H1 Q I1 q1
 | true=>exact ⟨.bl true,H1,I1,rfl,q1⟩
theorem pe_not(ha:PE X a ta):PE X (.UnaryOp .Not a pos) (tNotV ta):=by
 intro pins s σ H Q I h
 refine UnaryOp_ (thn (ha pins s σ H _ I h) fun v s1 ⟨x,H1,I1,r1,q1⟩=>?_)
 obtain ⟨c,rfl,q1⟩:=q1
 cases r1
 exact not_of (wpAny_truthy_bool ⟨.bl (!c),H1,I1,rfl,q1⟩)
def tIf(t:TT)(ta tb:TE):TE:=fun σ H Q=>t σ H fun c H1=>if c=true then ta σ H1 Q else tb σ H1 Q
theorem pe_ifExp{c:Expr}(hc:PT X c tA)(ha:PE X a ta)(hb:PE X b tb):PE X (.IfExp c a b pos) (tIf tA ta tb):=by
 intro pins s σ H Q I h
 refine wpAny_IfExp (thn (hc pins s σ H _ I h) fun d s1 ⟨H1,I1,q1⟩=>?_)
 cases d with
 | true=>exact ha pins s1 σ H1 Q I1 q1
 | false=>exact hb pins s1 σ H1 Q I1 q1
end
open PySem PySem.Spec PyProof.Rows
def SqL(K:PySem.W.Frag)(H:Hp)(a:Addr)(xs:List V):Prop :=
 Rd H a (.lst xs) \/
  ∃ (o:Obj) (its:Array Value) (n:Nat),K.lookup a=some o/\o.cls = .type "list" /\ o.dict=none/\o.data = .seq its n/\its.size<=sizeLine/\Vals xs its.toList
def SqT(K:PySem.W.Frag)(H:Hp)(a:Addr)(xs:List V):Prop :=
 Rd H a (.tup xs) \/
  ∃ (o:Obj) (its:Array Value) (n:Nat),K.lookup a=some o/\o.cls = .type "tuple" /\ o.data = .seq its n/\its.size<=sizeLine/\Vals xs its.toList
def absV:Value->Option V
 | .none=>some .non
 | .bool b=>some (.bl b)
 | .int i _=>some (.int i)
 | .str x _=>some (.str x)
 | .bytes b _=>some (.byt b)
 | .float b _=>some (.flt b)
 | .ref a=>some (.ref a)
 | .type n=>some (.ty n)
 | _=>none
theorem RelV.abs{x:V}{u:Value}(r:RelV x u):absV u=some x:=by
 cases x with
 | non=>cases r;rfl
 | bl _=>cases r;rfl
 | int _=>obtain ⟨t,rfl⟩:=r;rfl
 | str _=>obtain ⟨t,rfl⟩:=r;rfl
 | byt _=>obtain ⟨t,rfl⟩:=r;rfl
 | flt _=>obtain ⟨t,rfl⟩:=r;rfl
 | ref _=>cases r;rfl
 | ty _=>cases r;rfl
theorem RelV.inj{x y:V}{u:Value}(r:RelV x u)(q:RelV y u):x=y:=Option.some.inj (r.abs.symm.trans q.abs)
theorem Vals.inj:∀ {xs ys:List V} {us:List Value},Vals xs us->Vals ys us->xs=ys
 | _,_,_,.nil,.nil=>rfl
 | _,_,_,.cons r t,.cons r' t'=>by rw [r.inj r',Vals.inj t t']
section
variable {X:Cx} {pins:List (Addr×Obj)} {σ:St} {H:Hp} {s:Shared} {a:Addr} {xs ys:List V}
theorem SqL.of{K:PySem.W.Frag}(h:H a=some (.lst xs)):SqL K H a xs:=.inl (.inl h)
theorem SqT.of{K:PySem.W.Frag}(h:H a=some (.tup xs)):SqT K H a xs:=.inl (.inl h)
theorem Inv.list(I:Inv X pins σ H s)(h:SqL X.K H a xs):∃ its:List Value,Vals xs its/\PlainL s.heap a its.toArray/\xs.length<=sizeLine:=by
 rcases h with h | ⟨o,its,n,hk,hc,hd,hs,hz,r⟩
 ·obtain ⟨z,its,n,r,e⟩:=h.ok I.hok
  exact ⟨its,r,⟨_,n,e,rfl,rfl,rfl⟩,z⟩
 ·refine ⟨its.toList,r,⟨o,n,I.kIn a o hk,hc,hd,by simpa using hs⟩,?_⟩
  have e:=r.length
  simp only [Array.length_toList] at e
  lia
theorem Inv.tuple(I:Inv X pins σ H s)(h:SqT X.K H a xs):∃ its:List Value,Vals xs its/\IsTup s.heap a its.toArray/\xs.length<=sizeLine:=by
 rcases h with h | ⟨o,its,n,hk,hc,hs,hz,r⟩
 ·obtain ⟨z,its,r,p⟩:=h.ok I.hok
  exact ⟨its,r,p,z⟩
 ·refine ⟨its.toList,r,⟨o,I.kIn a o hk,hc,n,by simpa using hs⟩,?_⟩
  have e:=r.length
  simp only [Array.length_toList] at e
  lia
theorem Inv.list_inj(I:Inv X pins σ H s)(h:SqL X.K H a xs)(h':SqL X.K H a ys):xs=ys:=by
 obtain ⟨its,r,⟨o,n,e,_,_,d⟩,_⟩:=I.list h
 obtain ⟨its',r',⟨o',n',e',_,_,d'⟩,_⟩:=I.list h'
 rw [e] at e';cases e'
 rw [d] at d'
 injection d' with d1 _
 have:its=its':=by simpa using congrArg Array.toList d1
 subst this
 exact r.inj r'
theorem Inv.tuple_inj(I:Inv X pins σ H s)(h:SqT X.K H a xs)(h':SqT X.K H a ys):xs=ys:=by
 obtain ⟨its,r,⟨o,e,_,n,d⟩,_⟩:=I.tuple h
 obtain ⟨its',r',⟨o',e',_,n',d'⟩,_⟩:=I.tuple h'
 rw [e] at e';cases e'
 rw [d] at d'
 injection d' with d1 _
 have:its=its':=by simpa using congrArg Array.toList d1
 subst this
 exact r.inj r'
end
abbrev Cx.wish(X:Cx)(E:Value->Shared->Prop):Cx:={ X with xe:=E }
abbrev Cx.nox(X:Cx):Cx:=X.wish fun _ _=>False
theorem Cx.Ok.wish{X:Cx}(ok:X.Ok)(E:Value->Shared->Prop):(X.wish E).Ok :=
 ⟨ok.mod,ok.kind,ok.glob,ok.blt,ok.above,ok.inj,ok.has,ok.cab,ok.hd,ok.frames,ok.gd,ok.stk,ok.exf,ok.bs,ok.bsz,ok.noex,ok.exfs,ok.funs,ok.frf⟩
theorem Cx.Ok.unwish{X:Cx}{E:Value->Shared->Prop}(ok:(X.wish E).Ok):X.Ok :=
 ⟨ok.mod,ok.kind,ok.glob,ok.blt,ok.above,ok.inj,ok.has,ok.cab,ok.hd,ok.frames,ok.gd,ok.stk,ok.exf,ok.bs,ok.bsz,ok.noex,ok.exfs,ok.funs,ok.frf⟩
section
variable {X:Cx} {pins:List (Addr×Obj)} {σ:St} {H:Hp} {s:Shared} {E:Value->Shared->Prop}
theorem Inv.wish(I:Inv X pins σ H s)(E:Value->Shared->Prop):Inv (X.wish E) pins σ H s:=⟨I.ok.wish E,I.os,I.bare,I.base,I.loc,I.cell,I.free,I.freeC,I.pin,I.hok,I.len⟩
theorem Inv.unwish(I:Inv (X.wish E) pins σ H s):Inv X pins σ H s:=⟨I.ok.unwish,I.os,I.bare,I.base,I.loc,I.cell,I.free,I.freeC,I.pin,I.hok,I.len⟩
theorem SP.unwish{D:Ends}{f:Flow}{s':Shared}(h:SP (X.wish E) pins D f s'):SP X pins D f s':=by
 cases f with
 | next=>obtain ⟨σ',H',I,q⟩:=h;exact ⟨σ',H',I.unwish,q⟩
 | brk=>obtain ⟨σ',H',I,q⟩:=h;exact ⟨σ',H',I.unwish,q⟩
 | cont=>obtain ⟨σ',H',I,q⟩:=h;exact ⟨σ',H',I.unwish,q⟩
 | ret u=>obtain ⟨v,σ',H',I,r,q⟩:=h;exact ⟨v,σ',H',I.unwish,r,q⟩
theorem PSs.nox{st:List Stmt}{t:TS}(h:PSs X.nox st t):PSs X st t:=fun pins s σ H D I hw =>
 wpAny_mono (h pins s σ H D (I.wish _) hw) (fun _ _ q=>q.unwish) fun _ _ z=>False.elim z
end
section
variable {X:Cx} {st:Stmt} {rest:List Stmt} {t u:TS} {e:Expr} {te:TE} {pos:Pos}
def tNext:TS:=fun D σ H=>D.nx σ H
def tSeq(t u:TS):TS:=fun D σ H=>t { D with nx:=u D } σ H
theorem z_q:PSs X [] tNext:=fun _ _ σ H _ I h=>wpAny_execs_nil ⟨σ,H,I,h⟩
theorem z_d(h1:PS X st t)(h2:PSs X rest u):PSs X (st::rest) (tSeq t u):=by
 intro pins s σ H D I h
 refine wpAny_execs_cons (thn (h1 pins s σ H { D with nx:=u D } I h) fun f s1 q=>?_)
 cases f with
 | next =>
  obtain ⟨σ',H',I',q⟩:=q
  exact h2 pins s1 σ' H' D I' q
 | ret v=>exact q
 | brk=>exact q
 | cont=>exact q
theorem z_g(h1:PS X st t):PSs X [st] t:=by
 intro pins s σ H D I h
 refine wpAny_execs_cons (thn (h1 pins s σ H D I h) fun f s1 q=>?_)
 cases f with
 | next=>exact wpAny_execs_nil q
 | ret v=>exact q
 | brk=>exact q
 | cont=>exact q
theorem Inv.quiet{pins:List (Addr×Obj)}{σ:St}{H:Hp}{s:Shared}(I:Inv X pins σ H s):interactive X.env=false:=by simp [interactive,I.ok.kind]
def tDrop(te:TE):TS:=fun D σ H=>te σ H fun _ H1=>D.nx σ H1
theorem y_z(he:PE X e te)(hs:swapsWith e none pos.line X.env=pure false:=by rfl):PS X (.Expr e pos) (tDrop te):=by
 intro pins s σ H D I h
 exact wpAny_Expr_any (thn (he pins s σ H _ I h) fun v s1 ⟨x,H1,I1,r1,q1⟩=>⟨σ,H1,I1,q1⟩) I.quiet hs
def tRet(te:TE):TS:=fun D σ H=>te σ H D.rt
theorem z_l(he:PE X e te):PS X (.Return (some e) pos) (tRet te):=by
 intro pins s σ H D I h
 exact wpAny_Return_some (thn (he pins s σ H _ I h) fun v s1 ⟨x,H1,I1,r1,q1⟩=>⟨x,σ,H1,I1,r1,q1⟩)
def tIfS(c:TT)(t u:TS):TS:=fun D σ H=>c σ H fun b H1=>if b=true then t D σ H1 else u D σ H1
theorem y_d{c:Expr}{a b:List Stmt}{tc:TT}(hc:PT X c tc)(ha:PSs X a t)(hb:PSs X b u):PS X (.If c a b pos) (tIfS tc t u):=by
 intro pins s σ H D I h
 refine wpAny_If (thn (hc pins s σ H _ I h) fun d s1 ⟨H1,I1,q1⟩=>?_)
 cases d with
 | true=>exact ha pins s1 σ H1 D I1 q1
 | false=>exact hb pins s1 σ H1 D I1 q1
def tNever:TS:=fun _ _ _=>False
theorem x_t:PS X st tNever:=fun _ _ _ _ _ _ h=>h.elim
end
abbrev TG:=V->St->Hp->(St->Hp->Prop)->Prop
abbrev TGs:=List V->St->Hp->(St->Hp->Prop)->Prop
def PG(X:Cx)(target:Expr)(t:TG):Prop :=
 ∀ (pins:List (Addr×Obj)) (s:Shared) (σ:St) (H:Hp) (v:V) (u:Value) (Q:St->Hp->Prop),Inv X pins σ H s->RelV v u->t v σ H Q ->
  wpAny (model X.prog X.w) X.A (assign target X.env u) (fun _ s'=>∃ σ' H',Inv X pins σ' H' s'/\Q σ' H') X.xe s
def PGs(X:Cx)(ts:List Expr)(t:TGs):Prop :=
 ∀ (pins:List (Addr×Obj)) (s:Shared) (σ:St) (H:Hp) (vs:List V) (us:List Value) (Q:St->Hp->Prop),Inv X pins σ H s->Vals vs us->t vs σ H Q ->
  wpAny (model X.prog X.w) X.A (assignInOrder ((assignEach ts X.env).map (·.2)) us) (fun _ s'=>∃ σ' H',Inv X pins σ' H' s'/\Q σ' H') X.xe s
abbrev TSet:=V->V->V->Hp->(Hp->Prop)->Prop
def PSet(X:Cx)(t:TSet):Prop :=
 ∀ (pins:List (Addr×Obj)) (s:Shared) (σ:St) (H:Hp) (o i v:V) (ov iv u:Value) (Q:Hp->Prop),Inv X pins σ H s->RelV o ov->RelV i iv->RelV v u->t o i v H Q ->
  wpAny (model X.prog X.w) X.A (setItem ov iv u) (fun _ s'=>∃ H',Inv X pins σ H' s'/\Q H') X.xe s
section
variable {X:Cx} {pos:Pos}
def gName(i:Nat):TG:=fun v σ H Q=>Q (σ.set i (some v)) H
theorem y_g{i:Nat}{x:Str}(hN:X.N.Nodup)(hi:X.N[i]? = some x)(hx:Loc X.env.scope x)(hf:X.fn x=true\/X.env.scope.names.lookup x=some .local:=by first | exact .inl rfl | exact .inr rfl | assumption):PG X (.Name x pos) (gName i):=by
 intro pins s σ H v u Q I r h
 exact wpAny_assign_Name (l_k I hN hi hx r (fun s' I'=>⟨_,H,I',h⟩) hf)
def gNil:TGs:=fun vs σ H Q=>vs=[]/\Q σ H
def gCons(t:TG)(u:TGs):TGs:=fun vs σ H Q=>∃ v r,vs=v::r/\t v σ H fun σ' H'=>u r σ' H' Q
theorem q_y:PGs X [] gNil:=by
 intro pins s σ H vs us Q I r h
 obtain ⟨e,h⟩:=h
 subst e
 cases r
 exact assignInOrder_nil ⟨σ,H,I,h⟩
theorem w_f{e:Expr}{es:List Expr}{t:TG}{u:TGs}(h1:PG X e t)(h2:PGs X es u)
  (hs:(assignEach (e::es) X.env).map (·.2)=assign e X.env::(assignEach es X.env).map (·.2):=by rfl):PGs X (e::es) (gCons t u):=by
 intro pins s σ H vs us Q I r h
 obtain ⟨v,vr,e1,h⟩:=h
 subst e1
 cases r with
 | cons r rr =>
  rw [hs]
  refine assignInOrder_cons (thn (h1 pins s σ H _ _ _ I r h) fun _ s1 ⟨σ1,H1,I1,q1⟩=>?_)
  exact h2 pins s1 σ1 H1 _ _ Q I1 rr q1
def gTup(K:PySem.W.Frag)(n:Nat)(t:TGs):TG:=fun v σ H Q=>∃ a xs,v = .ref a/\SqT K H a xs/\xs.length=n/\t xs σ H Q
theorem m_p{es:List Expr}{k:Nat}{t:TGs}{n:Nat}(hc:X.calm=true)(h:PGs X es t)
  (hn:(assignEach es X.env).length=n:=by rfl) (hst:(assignEach es X.env).findIdx? (·.1)=none:=by rfl):PG X (.Tuple es k pos) (gTup X.K n t):=by
 intro pins s σ H v u Q I r hw
 obtain ⟨a,xs,e1,hq,hl,hw⟩:=hw
 subst e1
 cases r
 obtain ⟨its,rv,ht,hz⟩:=I.tuple hq
 refine assign_Tuple_tuple (I.ok.hd hc) ht (by simp [hn,<-hl,rv.length]) hst fun h' hx=>?_
 have I1:Inv X pins σ H { s with heap:=h' }:=I.kept (t':=s.toks) fun b o e=>hx b o (Nat.ne_of_lt (Heap.lt_size e)) e
 exact h pins _ σ H xs _ Q I1 (by simpa using rv) hw
def gSub(to ti:TE)(t:TSet):TG:=fun v σ H Q=>to σ H fun o H1=>ti σ H1 fun i H2=>t o i v H2 fun H3=>Q σ H3
theorem pg_sub{o i:Expr}{to ti:TE}{t:TSet}(ho:PE X o to)(hi:PE X i ti)(hs:PSet X t)
  (ha:∀ v,assign (.Subscript o i pos) X.env v=(do
   let ov <-holding [v] (eval o X.env)
   let iv <-holding [v,ov] (eval i X.env)
   standAt pos
   holding [v,ov,iv] (setItem ov iv v)
   release [v,ov,iv] []):=by intro _;rfl):PG X (.Subscript o i pos) (gSub to ti t):=by
 intro pins s σ H v u Q I r h
 rw [ha]
 refine wpAny_bind (wpAny_holding (thn (ho pins s σ H _ I h) fun ov s1 ⟨x,H1,I1,r1,q1⟩=>?_))
 refine wpAny_bind (wpAny_holding (thn (hi pins s1 σ H1 _ I1 q1) fun iv s2 ⟨y,H2,I2,r2,q2⟩=>?_))
 refine wpAny_bind (wpAny_standAt (wpAny_bind (wpAny_holding (thn (hs pins s2 σ H2 x y v ov iv u _ I2 r1 r2 r q2) fun _ s3 ⟨H3,I3,q3⟩=>?_))))
 exact wpAny_release ⟨σ,H3,I3,q3⟩
def tAsg(te:TE)(g:TG):TS:=fun D σ H=>te σ H fun x H1=>g x σ H1 D.nx
theorem ps_asg{tg e:Expr}{te:TE}{g:TG}(he:PE X e te)(hg:PG X tg g)(hs:swapsWithSole [tg] e pos.line X.env=pure false:=by rfl)(hw:swappedStores [tg] e X.env=pure none:=by rfl)
  (h1:(assignEach [tg] X.env).map (·.2)=[assign tg X.env]:=by rfl):PS X (.Assign [tg] e pos) (tAsg te g):=by
 intro pins s σ H D I h
 refine wpAny_Assign_stores (thn (he pins s σ H _ I h) fun v s1 ⟨x,H1,I1,r1,q1⟩=>?_) hs hw
 rw [h1]
 exact thn (hg pins s1 σ H1 x v _ I1 r1 q1) fun _ s2 q=>q
theorem z_p{i:Nat}{x:Str}{e:Expr}{te:TE}{pos':Pos}(hN:X.N.Nodup)(hi:X.N[i]? = some x)(hx:Loc X.env.scope x)(he:PE X e te)(hs:swapsWith e (some (.Name x pos')) pos.line X.env=pure false:=by rfl)(hf:X.fn x=true\/X.env.scope.names.lookup x=some .local:=by first | exact .inl rfl | exact .inr rfl | assumption) :
  PS X (.Assign [.Name x pos'] e pos) (tAsg te (gName i)):=by
 intro pins s σ H D I h
 refine wpAny_Assign_Name (thn (he pins s σ H _ I h) fun v s1 ⟨y,H1,I1,r1,q1⟩=>?_) hs
 exact l_k I1 hN hi hx r1 (fun s2 I2=>⟨_,H1,I2,q1⟩) hf
end
section
variable {X:Cx} {pos:Pos}
def tWhile(c:TT)(tb:TS):TS:=fun D σ H=>∃ W:Nat->St->Hp->Prop,(∃ m,W m σ H)/\∀ m σ H,W m σ H ->
 c σ H fun b H1=>if b=true then ∃ N:St->Hp->Prop,(∀ σ' H',N σ' H'->∃ m',m'<m/\W m' σ' H')/\tb { D with nx:=N,ct:=N,bk:=D.nx } σ H1 else D.nx σ H1
theorem q_z{c:Expr}{body:List Stmt}{tc:TT}{tb:TS}(hp:PassesOwn (model X.prog X.w) X.A X.env X.xe)(hc:PT X c tc)(hb:PSs X body tb):PS X (.While c body [] pos) (tWhile tc tb):=by
 intro pins s σ H D I h
 obtain ⟨W,⟨m0,w0⟩,turn⟩:=h
 refine wpAny_While (codeAny_whileLoop (fun n s'=>∃ σ' H',Inv X pins σ' H' s'/\W n σ' H') ?_ m0 ⟨σ,H,I,w0⟩)
 rintro n s1 ⟨σ1,H1,I1,w1⟩
 refine wpAny_passesOwn hp (thn (hc pins s1 σ1 H1 _ I1 (turn n σ1 H1 w1)) fun b s2 ⟨H2,I2,q2⟩=>?_)
 cases b with
 | true =>
  obtain ⟨N,hN,q2⟩:=q2
  rw [if_pos rfl]
  refine wpAny_passesOwn hp (thn (hb pins s2 σ1 H2 _ I2 q2) fun f s3 q3=>?_)
  cases f with
  | next =>
   obtain ⟨σ3,H3,I3,n3⟩:=q3
   obtain ⟨m',hm,w3⟩:=hN σ3 H3 n3
   exact ⟨m',hm,σ3,H3,I3,w3⟩
  | cont =>
   obtain ⟨σ3,H3,I3,n3⟩:=q3
   obtain ⟨m',hm,w3⟩:=hN σ3 H3 n3
   exact ⟨m',hm,σ3,H3,I3,w3⟩
  | brk=>exact q3
  | ret v=>exact q3
 | false =>
  rw [if_neg Bool.false_ne_true]
  exact wpAny_execs_nil ⟨σ1,H2,I2,q2⟩
end
structure It where
 go:Nat->Hp->Prop
 yld:Nat->Hp->V->Hp->Prop
 stop:Nat->Hp->Prop
def FpOk(X:Cx)(pins:List (Addr×Obj))(H:Hp)(b:Addr):Prop :=
 H b=none/\b≠X.env.locals/\b∉X.fs/\(b∈X.ex\/X.s₀.heap.objs.size<=b)/\(∀ x c,X.env.cells.lookup x=some c->c≠b)/\∀ p∈X.pn++pins,p.1≠b
theorem Inv.fpOk{X:Cx}{pins:List (Addr×Obj)}{σ:St}{H H':Hp}{s:Shared}{b:Addr}(I:Inv X pins σ H s)(hb:s.heap.objs.size<=b)(hn:H' b=none):FpOk X pins H' b:=by
 refine ⟨hn,Nat.ne_of_gt (Nat.lt_of_lt_of_le I.lt hb),I.nofs hb,.inr (Nat.le_trans I.sz hb),fun x c e z=>?_,fun p hp z=>?_⟩
 ·obtain ⟨v,q⟩:=I.cell x c e
  exact absurd (Nat.lt_of_lt_of_le q.lt (by rw [z];exact hb)) (Nat.lt_irrefl _)
 ·exact absurd (Nat.lt_of_lt_of_le (Heap.lt_size (I.pin p hp).1) (by rw [z];exact hb)) (Nat.lt_irrefl _)
structure Turn(P:Program)(w:World)(K:PySem.W.Frag)(tg:Expr)(J:It)(fp:List Addr)(it:Addr)(tn:Nat->Heap->Prop):Prop where
 mem:it∈fp
 obj:∀ i h,tn i h->∀ b∈fp,∃ o,h.get? b=some o/\∀ v,o.data ≠ .cell v
 keep:∀ i h h',tn i h->(∀ b∈fp,∀ o,h.get? b=some o->h'.get? b=some o)->tn i h'
 item:∀ (X:Cx),X.prog=P->X.w=w->X.K=K->X.calm=true->∀ (i:Nat) (pins:List (Addr×Obj)) (s:Shared) (σ:St) (H:Hp) (E:Value->Shared->Prop),Inv X pins σ H s->(∀ b∈fp,FpOk X pins H b)->tn i s.heap->J.go i H ->
  wpAny (model P w) X.A (pyNext (.ref it)) (fun r s1=>∃ u,r=some u /\
   wpAny (model P w) X.A (letOwnedTupleGo tg (.ref it) u) (fun _ s2=>∃ x H',Inv X pins σ H' s2/\RelV x u/\J.yld i H x H'/\tn (i+1) s2.heap/\∀ b∈fp,H' b=none) E s1) E s
 done:∀ (X:Cx),X.prog=P->X.w=w->X.K=K->X.calm=true->∀ (i:Nat) (pins:List (Addr×Obj)) (s:Shared) (σ:St) (H:Hp) (E:Value->Shared->Prop),Inv X pins σ H s->(∀ b∈fp,FpOk X pins H b)->tn i s.heap->J.stop i H ->
  wpAny (model P w) X.A (pyNext (.ref it)) (fun r s1=>r=none/\Inv X pins σ H s1) E s
 self:∀ (A:Around) (i:Nat) (s:Shared) (Q:Value->Shared->Prop) (E:Value->Shared->Prop),tn i s.heap->Q (.ref it) s->wpAny (model P w) A (pyIter (.ref it)) Q E s
abbrev TI:=St->Hp->(It->Hp->Prop)->Prop
def PIE(X:Cx)(pins:List (Addr×Obj))(σ:St)(tg:Expr)(R:It->Hp->Prop)(itv:Value)(s2:Shared):Prop :=
 ∃ (it:Addr) (fp:List Addr) (tn:Nat->Heap->Prop) (J:It) (H':Hp),itv = .ref it/\Inv X pins σ H' s2/\Turn X.prog X.w X.K tg J fp it tn/\tn 0 s2.heap/\(∀ b∈fp,FpOk X pins H' b)/\R J H'
def PI(X:Cx)(tg iter:Expr)(wi:TI):Prop :=
 ∀ (pins:List (Addr×Obj)) (s:Shared) (σ:St) (H:Hp) (R:It->Hp->Prop),Inv X pins σ H s->wi σ H R ->
  wpAny (model X.prog X.w) X.A (eval iter X.env) (fun v s1=>wpAny (model X.prog X.w) X.A (pyIter v) (PIE X pins σ tg R) X.xe s1) X.xe s
theorem go_of{M : Model}{A : Around}{E : Value -> Shared -> Prop}{s : Shared}{tg : Expr}{it : Addr}{u : Value}{o : Obj}{n : String}{vs : Array Value}{Q : Unit -> Shared -> Prop}(ho : s.heap.get? it = some o)(hc : o.cls = .type n)(hd : o.data = .fields vs)
    (hn : ["enumerate", "zip", "dict_itemiterator", "dict_reverseitemiterator", "odict_iterator", "itertools.zip_longest", "itertools.pairwise"].contains n = false) (hQ : Q () s) : wpAny M A (letOwnedTupleGo tg (.ref it) u) Q E s := by
  unfold letOwnedTupleGo
  cases tg <;> first
    | exact wpAny_pure hQ
    | (cases u <;> first
        | exact wpAny_pure hQ
        | (refine wpAny_bind (wpAny_load ho ?_)
           rw [hc, hd]
           show wpAny M A (if (["enumerate", "zip", "dict_itemiterator", "dict_reverseitemiterator", "odict_iterator", "itertools.zip_longest", "itertools.pairwise"].contains n && vs[0]? == some (rawInt _)) = true then _ else _) Q E s
           rw [if_neg (by intro h; rw [hn, Bool.false_and] at h; cases h)]
           exact wpAny_pure hQ))
def Itl(K:PySem.W.Frag)(a:Addr):It :=
 ⟨fun i H=>∃ xs x,SqL K H a xs/\xs[i]? = some x,fun i H x H'=>H'=H/\∀ xs,SqL K H a xs->xs[i]? = some x,fun i H=>∃ xs,SqL K H a xs/\xs.length<=i⟩
def Itt(K:PySem.W.Frag)(a:Addr):It :=
 ⟨fun i H=>∃ xs x,SqT K H a xs/\xs[i]? = some x,fun i H x H'=>H'=H/\∀ xs,SqT K H a xs->xs[i]? = some x,fun i H=>∃ xs,SqT K H a xs/\xs.length<=i⟩
def Itr(lo:Int)(n:Nat):It:=⟨fun i _=>i<n,fun i H x H'=>H'=H/\x = .int (lo+i),fun i _=>n<=i⟩
theorem i_z{P:Program}{w:World}{K:PySem.W.Frag}{tg:Expr}(a it:Addr):Turn P w K tg (Itl K a) [it] it (fun i h=>h.IsListIter it a i) where
 mem:=by simp
 obj:=fun i h st b hb=>by
  have e:b=it:=by simpa using hb
  subst e
  obtain ⟨o,e,c,d⟩:=st
  exact ⟨o,e,fun v z=>by rw [d] at z;cases z⟩
 keep:=fun i h h' st k=>st.at fun o e=>k it (by simp) o e
 item:=by
  intro X hP hw hK hc i pins s σ H E I hf st hg
  subst hP hw hK
  obtain ⟨xs,x,hq,hx⟩:=hg
  obtain ⟨its,rv,p,hz⟩:=I.list hq
  obtain ⟨u,hu,ru⟩:=rv.get hx
  obtain ⟨f0,f1,f2,f3,f4,f5⟩:=hf it (by simp)
  refine wpAny_pyNext_list_item st p.isList (x:=u) (by simpa using hu) fun h' st' sb=>?_
  have I1:Inv X pins σ H { s with heap:=h' }:=I.turned (t':=s.toks) (fun b o hb e=>(sb.2 b hb).trans e) f0 f1 f3 f4 f5
  obtain ⟨o,e,c,d⟩:=id st'
  exact ⟨u,rfl,go_of (s:={ s with heap:=h' }) e c d (by decide) ⟨x,H,I1,ru,⟨rfl,fun ys hy=>by rw [I.list_inj hy hq];exact hx⟩,st',fun b hb=>(hf b hb).1⟩⟩
 done:=by
  intro X hP hw hK hc i pins s σ H E I hf st hg
  subst hP hw hK
  obtain ⟨xs,hq,hx⟩:=hg
  obtain ⟨its,rv,p,hz⟩:=I.list hq
  obtain ⟨f0,f1,f2,f3,f4,f5⟩:=hf it (by simp)
  have hl:=rv.length
  exact wpAny_pyNext_list_end (I.ok.hd hc) st p.isList (by simp;lia) fun h' eb=>⟨rfl,I.turned (t':=s.toks) (fun b o hb e=>eb b o hb e) f0 f1 f3 f4 f5⟩
 self:=fun _ _ _ _ _ st h=>wpAny_pyIter_listiter st h
theorem k_m{P:Program}{w:World}{K:PySem.W.Frag}{tg:Expr}(a it:Addr):Turn P w K tg (Itt K a) [it] it (fun i h=>h.IsTupleIter it a i) where
 mem:=by simp
 obj:=fun i h st b hb=>by
  have e:b=it:=by simpa using hb
  subst e
  obtain ⟨o,e,c,d⟩:=st
  exact ⟨o,e,fun v z=>by rw [d] at z;cases z⟩
 keep:=fun i h h' st k=>st.at fun o e=>k it (by simp) o e
 item:=by
  intro X hP hw hK hc i pins s σ H E I hf st hg
  subst hP hw hK
  obtain ⟨xs,x,hq,hx⟩:=hg
  obtain ⟨its,rv,p,hz⟩:=I.tuple hq
  obtain ⟨u,hu,ru⟩:=rv.get hx
  obtain ⟨f0,f1,f2,f3,f4,f5⟩:=hf it (by simp)
  refine wpAny_pyNext_tuple_item st (show s.heap.IsTuple a its.toArray from p) (x:=u) (by simpa using hu) fun h' st' sb=>?_
  have I1:Inv X pins σ H { s with heap:=h' }:=I.turned (t':=s.toks) (fun b o hb e=>(sb.2 b hb).trans e) f0 f1 f3 f4 f5
  obtain ⟨o,e,c,d⟩:=id st'
  exact ⟨u,rfl,go_of (s:={ s with heap:=h' }) e c d (by decide) ⟨x,H,I1,ru,⟨rfl,fun ys hy=>by rw [I.tuple_inj hy hq];exact hx⟩,st',fun b hb=>(hf b hb).1⟩⟩
 done:=by
  intro X hP hw hK hc i pins s σ H E I hf st hg
  subst hP hw hK
  obtain ⟨xs,hq,hx⟩:=hg
  obtain ⟨its,rv,p,hz⟩:=I.tuple hq
  obtain ⟨f0,f1,f2,f3,f4,f5⟩:=hf it (by simp)
  have hl:=rv.length
  exact wpAny_pyNext_tuple_end (I.ok.hd hc) st (show s.heap.IsTuple a its.toArray from p) (by simp;lia) fun h' eb=>⟨rfl,I.turned (t':=s.toks) (fun b o hb e=>eb b o hb e) f0 f1 f3 f4 f5⟩
 self:=fun _ _ _ _ _ st h=>wpAny_pyIter_tupleiter st h
theorem k_l{P:Program}{w:World}{K:PySem.W.Frag}{tg:Expr}(it:Addr)(lo:Int)(n:Nat):Turn P w K tg (Itr lo n) [it] it (fun i h=>IsRangeIter h it (lo+(i:Nat)*1) ((n:Int)-(i:Nat)) 1) where
 mem:=by simp
 obj:=fun i h st b hb=>by
  have e:b=it:=by simpa using hb
  subst e
  exact ⟨_,st,fun v z=>by
   have z':Data.fields _=Data.cell v:=z
   cases z'⟩
 keep:=fun i h h' st k=>k it (by simp) _ st
 item:=by
  intro X hP hw hK hc i pins s σ H E I hf st hg
  subst hP hw hK
  obtain ⟨f0,f1,f2,f3,f4,f5⟩:=hf it (by simp)
  have W:=Walks.range (prog:=X.prog) (w:=X.w) (I.ok.hd hc) it lo 1 n
  refine W.item i s _ _ hg st fun v h' tk hv st' kk=>?_
  obtain ⟨t,rfl⟩:=hv
  have I1:Inv X pins σ H { s with heap:=h',toks:=tk }:=I.turned (fun b o hb e=>kk b o (by simpa using hb) e) f0 f1 f3 f4 f5
  refine ⟨_,rfl,go_of (s:={ s with heap:=h',toks:=tk }) (n := "range_iterator") st' rfl rfl (by decide) ⟨.int (lo+i),H,I1,⟨t,?_⟩,⟨rfl,rfl⟩,st',fun b hb=>(hf b hb).1⟩⟩
  rw [Int.mul_one]
 done:=by
  intro X hP hw hK hc i pins s σ H E I hf st hg
  subst hP hw hK
  obtain ⟨f0,f1,f2,f3,f4,f5⟩:=hf it (by simp)
  exact wpAny_pyNext_range_end (I.ok.hd hc) st (by have:n<=i:=hg;lia) fun h' eb=>⟨rfl,I.turned (t':=s.toks) (fun b o hb e=>eb b o hb e) f0 f1 f3 f4 f5⟩
 self:=fun _ _ _ _ _ st h=>wpAny_pyIter_rangeiter st h
open PySem PySem.Spec PyProof.Rows
section
variable {X:Cx} {tg:Expr}
def iList(K:PySem.W.Frag)(tl:TE):TI:=fun σ H R=>tl σ H fun x H1=>∃ a,x = .ref a/\(∃ xs,SqL K H1 a xs)/\R (Itl K a) H1
def iTup(K:PySem.W.Frag)(tl:TE):TI:=fun σ H R=>tl σ H fun x H1=>∃ a,x = .ref a/\(∃ xs,SqT K H1 a xs)/\R (Itt K a) H1
theorem x_s{l:Expr}{tl:TE}(hl:PE X l tl):PI X tg l (iList X.K tl):=by
 intro pins s σ H R I h
 refine thn (hl pins s σ H _ I h) fun v s1 ⟨x,H1,I1,r1,q1⟩=>?_
 obtain ⟨a,e,⟨xs,hq⟩,q⟩:=q1
 subst e
 cases r1
 obtain ⟨its,rv,p,hz⟩:=I1.list hq
 refine wpAny_pyIter_list p.isList ?_
 refine ⟨s1.heap.objs.size,[s1.heap.objs.size],_,_,H1,rfl,I1.kept (t':=s1.toks) fun b o e=>Heap.get?_push_of_some _ e,i_z a _,⟨_,Heap.get?_push_size _ rfl,rfl,rfl⟩,fun b hb=>?_,q⟩
 have e:b=s1.heap.objs.size:=by simpa using hb
 subst e
 exact I1.fpOk (Nat.le_refl _) (I1.hok.fresh (Nat.le_refl _))
theorem w_b{l:Expr}{tl:TE}(hl:PE X l tl):PI X tg l (iTup X.K tl):=by
 intro pins s σ H R I h
 refine thn (hl pins s σ H _ I h) fun v s1 ⟨x,H1,I1,r1,q1⟩=>?_
 obtain ⟨a,e,⟨xs,hq⟩,q⟩:=q1
 subst e
 cases r1
 obtain ⟨its,rv,p,hz⟩:=I1.tuple hq
 refine wpAny_pyIter_tuple (show s1.heap.IsTuple a its.toArray from p) ?_
 refine ⟨s1.heap.objs.size,[s1.heap.objs.size],_,_,H1,rfl,I1.kept (t':=s1.toks) fun b o e=>Heap.get?_push_of_some _ e,k_m a _,⟨_,Heap.get?_push_size _ rfl,rfl,rfl⟩,fun b hb=>?_,q⟩
 have e:b=s1.heap.objs.size:=by simpa using hb
 subst e
 exact I1.fpOk (Nat.le_refl _) (I1.hok.fresh (Nat.le_refl _))
theorem range_it{pins:List (Addr×Obj)}{σ:St}{H:Hp}{s:Shared}{R:It->Hp->Prop}{E:Value->Shared->Prop}{lo hi:Int}{t u v:Tok}{tk:Nat}(I:Inv X pins σ H s)(h1 : -(2^62)<=lo)(h2:lo<2^62)(h3 : -(2^62)<=hi)(h4:hi<2^62)
  (q:R (Itr lo (hi-lo).toNat) H):wpAny (model X.prog X.w) X.A (pyIter (.ref s.heap.objs.size)) (PIE X pins σ tg R) E { s with heap:=s.heap.push { cls:=.type "range",data:=.fields #[.int lo t,.int hi u,.int 1 v] },toks:=tk }:=by
 refine wpAny_pyIter_range (IsRange.new ..) (small_one h1 h2 h3 h4) ?_
 have I1:Inv X pins σ H { s with heap:=s.heap.push { cls:=.type "range",data:=.fields #[.int lo t,.int hi u,.int 1 v] },toks:=tk }:=I.kept fun b o e=>Heap.get?_push_of_some _ e
 refine ⟨(s.heap.push { cls:=.type "range",data:=.fields #[.int lo t,.int hi u,.int 1 v] }).objs.size,[(s.heap.push { cls:=.type "range",data:=.fields #[.int lo t,.int hi u,.int 1 v] }).objs.size],_,_,H,rfl,
  I1.kept (t':=tk) fun b o e=>Heap.get?_push_of_some _ e,k_l _ lo (hi-lo).toNat,?_,fun b hb=>?_,q⟩
 ·have e1:lo+((0:Nat):Int)*1=lo:=by simp
  have e2:(((hi-lo).toNat:Nat):Int)-((0:Nat):Int)=Builtin.Range.rangeSize lo hi 1:=by rw [rangeSize_one];split<;>lia
  show IsRangeIter _ _ (lo+((0:Nat):Int)*1) ((((hi-lo).toNat:Nat):Int)-((0:Nat):Int)) 1
  rw [e1,e2]
  exact Heap.get?_push_size _ rfl
 ·have e:b=(s.heap.push { cls:=.type "range",data:=.fields #[.int lo t,.int hi u,.int 1 v] }).objs.size:=by simpa using hb
  subst e
  exact I1.fpOk (Nat.le_refl _) (I1.hok.fresh (Nat.le_refl _))
def iRng1(ta:TA):TI:=fun σ H R=>ta σ H fun vs H1=>∃ j:Int,vs=[.int j] /\ -(2^62)<=j/\j<2^62/\R (Itr 0 j.toNat) H1
theorem y_x{a:Expr}{ta:TA}{p pos:Pos}(hg:Gl X "range")(hm:X.mg "range" = none)(ha:PA X [a] ta)(hs:starEach [a] X.env=[(false,eval a X.env)]:=by rfl):PI X tg (.Call (.Name "range" p) [a] [] pos) (iRng1 ta):=by
 intro pins s σ H R I h
 refine Call_ (q_h I hg hm boot_range (PyProof.Rows.callWith_type1 (thn (ha pos pins s σ H _ I h) fun us s1 ⟨vs,H1,I1,r1,q1⟩=>?_) hs rfl))
 obtain ⟨j,e,q1,q2,q⟩:=q1
 subst e
 cases r1 with
 | cons r rr =>
  cases rr
  obtain ⟨t,rfl⟩:=r
  exact call_range_1 (range_it I1 (by lia) (by lia) q1 q2 (by simpa using q))
def tFor(wi:TI)(g:TG)(tb:TS):TS:=fun D σ H=>wi σ H fun J H1=>∃ W:Nat->Nat->St->Hp->Prop,(∃ m,W 0 m σ H1)/\∀ i m σ H,W i m σ H ->
 (J.stop i H/\D.nx σ H)\/(J.go i H/\∃ N:St->Hp->Prop,(∀ σ' H',N σ' H'->∃ m',m'<m/\W (i+1) m' σ' H')/\∀ x H',J.yld i H x H'->g x σ H' fun σ2 H2=>tb { D with nx:=N,ct:=N,bk:=D.nx } σ2 H2)
def pinsAt(fp:List Addr)(h:Heap):List (Addr×Obj):=fp.filterMap fun b=>(h.get? b).map fun o=>(b,o)
theorem u_z{fp:List Addr}{h:Heap}{b:Addr}{o:Obj}(hb:b∈fp)(e:h.get? b=some o):(b,o)∈pinsAt fp h:=List.mem_filterMap.mpr ⟨b,hb,by rw [e];rfl⟩
theorem p_v{fp:List Addr}{h:Heap}{p:Addr×Obj}(hp:p∈pinsAt fp h):p.1∈fp/\h.get? p.1=some p.2:=by
 obtain ⟨b,hb,e⟩:=List.mem_filterMap.mp hp
 cases q:h.get? b with
 | none=>rw [q] at e;cases e
 | some o =>
  rw [q] at e
  have e':(b,o)=p:=Option.some.inj e
  subst e'
  exact ⟨hb,q⟩
theorem Inv.pinned{pins:List (Addr×Obj)}{σ:St}{H:Hp}{s:Shared}{fp:List Addr}(I:Inv X pins σ H s)(hf:∀ b∈fp,FpOk X pins H b)(ho:∀ b∈fp,∃ o,s.heap.get? b=some o/\∀ v,o.data ≠ .cell v):Inv X (pins++pinsAt fp s.heap) σ H s :=
 I.pins_of fun p hp=>(List.mem_append.mp hp).elim (fun z=>I.pin p (List.mem_append_right _ z)) fun z=>by
  obtain ⟨hb,e⟩:=p_v z
  obtain ⟨f0,f1,f2,_⟩:=hf p.1 hb
  obtain ⟨o,e',d⟩:=ho p.1 hb
  rw [e] at e';cases e'
  exact ⟨e,f0,f1,f2,d⟩
theorem Inv.unpinned{pins pl:List (Addr×Obj)}{σ:St}{H:Hp}{s:Shared}(I:Inv X (pins++pl) σ H s):Inv X pins σ H s:=I.pins_of fun p hp=>I.pin p (List.mem_append_right _ (List.mem_append_left _ hp))
theorem x_j{iter:Expr}{body:List Stmt}{wi:TI}{g:TG}{tb:TS}{pos:Pos}(hp:PassesOwn (model X.prog X.w) X.A X.env X.xe)(hc:X.calm=true)(hi:PI X tg iter wi)(hg:PG X tg g)(hb:PSs X body tb)
  (hs:∀ x,foldedSetIterable iter X.env x=pure x:=by intro _;rfl):PS X (.For tg iter body [] pos) (tFor wi g tb):=by
 intro pins s σ H D I h
 refine wpAny_For (thn (hi pins s σ H _ I h) fun v s1 h1=>thn h1 fun itv s2 h2=>?_) hs
 obtain ⟨it,fp,tn,J,H2,e,I2,T,st2,f2,W,⟨m0,w0⟩,turn⟩:=h2
 subst e
 have stat:∀ {H':Hp},(∀ b∈fp,H' b=none)->∀ b∈fp,FpOk X pins H' b:=fun hn b hb=>⟨hn b hb,(f2 b hb).2⟩
 refine codeAny_forLoop_any (fun n s'=>∃ i σ' H',Inv X pins σ' H' s'/\tn i s'.heap/\(∀ b∈fp,H' b=none)/\W i n σ' H') ?_ m0 ⟨0,σ,H2,I2,st2,fun b hb=>(f2 b hb).1,w0⟩
 rintro n s3 ⟨i,σ3,H3,I3,st3,fr3,w3⟩
 rcases turn i n σ3 H3 w3 with ⟨stop,qn⟩ | ⟨go,N,hN,step⟩
 ·refine wpAny_passesOwn hp (thn (T.done X rfl rfl rfl hc i pins s3 σ3 H3 X.xe I3 (stat fr3) st3 stop) fun r s4 ⟨hr,I4⟩=>?_)
  subst hr
  exact wpAny_execs_nil ⟨σ3,H3,I4,qn⟩
 ·refine wpAny_passesOwn hp (thn (T.item X rfl rfl rfl hc i pins s3 σ3 H3 X.xe I3 (stat fr3) st3 go) fun r s4 ⟨u,hr,h4⟩=>?_)
  subst hr
  refine wpAny_passesOwn hp (thn h4 fun _ s5 ⟨x,H5,I5,r5,y5,st5,fr5⟩=>?_)
  have I5':=I5.pinned (stat fr5) (T.obj _ _ st5)
  refine wpAny_passesOwn hp (thn (hg _ s5 σ3 H5 x u _ I5' r5 (step x H5 y5)) fun _ s6 ⟨σ6,H6,I6,q6⟩=>?_)
  refine wpAny_passesOwn hp (thn (hb _ s6 σ6 H6 _ I6 q6) fun f s7 q7=>?_)
  have again:∀ {σ7:St} {H7:Hp},Inv X (pins++pinsAt fp s5.heap) σ7 H7 s7->N σ7 H7->∃ m,m<n/\∃ i σ' H',Inv X pins σ' H' s7/\tn i s7.heap/\(∀ b∈fp,H' b=none)/\W i m σ' H':=fun {σ7 H7} I7 n7=>by
   obtain ⟨m',hm,w7⟩:=hN σ7 H7 n7
   refine ⟨m',hm,i+1,σ7,H7,I7.unpinned,T.keep _ _ _ st5 fun b hb o e=>(I7.pin (b,o) (List.mem_append_right _ (List.mem_append_right _ (u_z hb e)))).1,fun b hb=>?_,w7⟩
   obtain ⟨o,e,d⟩:=T.obj _ _ st5 b hb
   exact (I7.pin (b,o) (List.mem_append_right _ (List.mem_append_right _ (u_z hb e)))).2.1
  cases f with
  | next=>obtain ⟨σ7,H7,I7,n7⟩:=q7;exact again I7 n7
  | cont=>obtain ⟨σ7,H7,I7,n7⟩:=q7;exact again I7 n7
  | brk=>obtain ⟨σ7,H7,I7,q7⟩:=q7;exact ⟨σ7,H7,I7.unpinned,q7⟩
  | ret v=>obtain ⟨x7,σ7,H7,I7,r7,q7⟩:=q7;exact ⟨x7,σ7,H7,I7.unpinned,r7,q7⟩
end
theorem u_x{K:PySem.W.Frag}{a:Addr}{xs:List V}{g:TG}{tb:TS}{D:Ends}{σ:St}{H:Hp}(Pv:Nat->St->Hp->Prop)(h0:Pv 0 σ H)(hl:∀ i σ H,i<=xs.length->Pv i σ H->SqL K H a xs)
  (hs:∀ i x σ H,xs[i]? = some x->Pv i σ H->g x σ H fun σ2 H2=>tb { D with nx:=Pv (i+1),ct:=Pv (i+1),bk:=D.nx } σ2 H2) (hd:∀ σ H,Pv xs.length σ H->D.nx σ H) :
  ∃ W:Nat->Nat->St->Hp->Prop,(∃ m,W 0 m σ H)/\∀ i m σ H,W i m σ H ->
   ((Itl K a).stop i H/\D.nx σ H)\/((Itl K a).go i H/\∃ N:St->Hp->Prop,(∀ σ' H',N σ' H'->∃ m',m'<m/\W (i+1) m' σ' H')/\∀ x H',(Itl K a).yld i H x H'->g x σ H' fun σ2 H2=>tb { D with nx:=N,ct:=N,bk:=D.nx } σ2 H2):=by
 refine ⟨fun i m σ H=>m=xs.length-i/\i<=xs.length/\Pv i σ H,⟨xs.length,by simp,Nat.zero_le _,h0⟩,?_⟩
 rintro i m σ H ⟨rfl,hi,p⟩
 have q:=hl i σ H hi p
 by_cases hlt:i<xs.length
 ·refine .inr ⟨⟨xs,xs[i],q,by simp [hlt]⟩,Pv (i+1),fun σ' H' p'=>⟨xs.length-(i+1),by lia,rfl,hlt,p'⟩,fun x H' y=>?_⟩
  obtain ⟨e,y⟩:=y
  subst e
  exact hs i x σ _ (y xs q) p
 ·have e:i=xs.length:=by lia
  subst e
  exact .inl ⟨⟨xs,q,Nat.le_refl _⟩,hd σ H p⟩
theorem v_m{K:PySem.W.Frag}{a:Addr}{xs:List V}{g:TG}{tb:TS}{D:Ends}{σ:St}{H:Hp}(Pv:Nat->St->Hp->Prop)(h0:Pv 0 σ H)(hl:∀ i σ H,i<=xs.length->Pv i σ H->SqT K H a xs)
  (hs:∀ i x σ H,xs[i]? = some x->Pv i σ H->g x σ H fun σ2 H2=>tb { D with nx:=Pv (i+1),ct:=Pv (i+1),bk:=D.nx } σ2 H2) (hd:∀ σ H,Pv xs.length σ H->D.nx σ H) :
  ∃ W:Nat->Nat->St->Hp->Prop,(∃ m,W 0 m σ H)/\∀ i m σ H,W i m σ H ->
   ((Itt K a).stop i H/\D.nx σ H)\/((Itt K a).go i H/\∃ N:St->Hp->Prop,(∀ σ' H',N σ' H'->∃ m',m'<m/\W (i+1) m' σ' H')/\∀ x H',(Itt K a).yld i H x H'->g x σ H' fun σ2 H2=>tb { D with nx:=N,ct:=N,bk:=D.nx } σ2 H2):=by
 refine ⟨fun i m σ H=>m=xs.length-i/\i<=xs.length/\Pv i σ H,⟨xs.length,by simp,Nat.zero_le _,h0⟩,?_⟩
 rintro i m σ H ⟨rfl,hi,p⟩
 have q:=hl i σ H hi p
 by_cases hlt:i<xs.length
 ·refine .inr ⟨⟨xs,xs[i],q,by simp [hlt]⟩,Pv (i+1),fun σ' H' p'=>⟨xs.length-(i+1),by lia,rfl,hlt,p'⟩,fun x H' y=>?_⟩
  obtain ⟨e,y⟩:=y
  subst e
  exact hs i x σ _ (y xs q) p
 ·have e:i=xs.length:=by lia
  subst e
  exact .inl ⟨⟨xs,q,Nat.le_refl _⟩,hd σ H p⟩
theorem x_i{lo:Int}{n:Nat}{g:TG}{tb:TS}{D:Ends}{σ:St}{H:Hp}(Pv:Nat->St->Hp->Prop)(h0:Pv 0 σ H)
  (hs:∀ i σ H,i<n->Pv i σ H->g (.int (lo+i)) σ H fun σ2 H2=>tb { D with nx:=Pv (i+1),ct:=Pv (i+1),bk:=D.nx } σ2 H2) (hd:∀ σ H,Pv n σ H->D.nx σ H) :
  ∃ W:Nat->Nat->St->Hp->Prop,(∃ m,W 0 m σ H)/\∀ i m σ H,W i m σ H ->
   ((Itr lo n).stop i H/\D.nx σ H)\/((Itr lo n).go i H/\∃ N:St->Hp->Prop,(∀ σ' H',N σ' H'->∃ m',m'<m/\W (i+1) m' σ' H')/\∀ x H',(Itr lo n).yld i H x H'->g x σ H' fun σ2 H2=>tb { D with nx:=N,ct:=N,bk:=D.nx } σ2 H2):=by
 refine ⟨fun i m σ H=>m=n-i/\i<=n/\Pv i σ H,⟨n,by simp,Nat.zero_le _,h0⟩,?_⟩
 rintro i m σ H ⟨rfl,hi,p⟩
 by_cases hlt:i<n
 ·refine .inr ⟨hlt,Pv (i+1),fun σ' H' p'=>⟨n-(i+1),by lia,rfl,hlt,p'⟩,fun x H' y=>?_⟩
  obtain ⟨e,y⟩:=y
  subst e y
  exact hs i σ _ hlt p
 ·have e:i=n:=by lia
  subst e
  exact .inl ⟨Nat.le_refl _,hd σ H p⟩
theorem while_by{c:TT}{tb:TS}{D:Ends}{σ:St}{H:Hp}(Pv:St->Hp->Prop)(μ:St->Hp->Nat)(h0:Pv σ H)
  (hs:∀ σ H,Pv σ H->c σ H fun b H1=>if b=true then tb { D with nx:=fun σ' H'=>Pv σ' H'/\μ σ' H'<μ σ H,ct:=fun σ' H'=>Pv σ' H'/\μ σ' H'<μ σ H,bk:=D.nx } σ H1 else D.nx σ H1)
  (mono:∀ σ H Q Q',(∀ b H1,Q b H1->Q' b H1)->c σ H Q->c σ H Q'):tWhile c tb D σ H:=by
 refine ⟨fun m σ H=>m=μ σ H/\Pv σ H,⟨_,rfl,h0⟩,?_⟩
 rintro m σ H ⟨rfl,p⟩
 refine mono σ H _ _ (fun b H1 q=>?_) (hs σ H p)
 cases b with
 | true=>exact ⟨_,fun σ' H' ⟨p',l⟩=>⟨_,l,rfl,p'⟩,q⟩
 | false=>exact q
open PySem PySem.Spec PyProof.Rows
abbrev R2:=V->V->Hp->VK->Prop
def OpR(X:Cx)(f:Value->Value->Sem Value)(r:R2):Prop :=
 ∀ (pins:List (Addr×Obj)) (s:Shared) (σ:St) (H:Hp) (x y:V) (v u:Value) (Q:VK),Inv X pins σ H s->RelV x v->RelV y u->r x y H Q ->
  wpAny (model X.prog X.w) X.A (f v u) (EP X pins σ Q) X.xe s
def UnR(X:Cx)(f:Value->Sem Value)(r:V->Hp->VK->Prop):Prop :=
 ∀ (pins:List (Addr×Obj)) (s:Shared) (σ:St) (H:Hp) (x:V) (v:Value) (Q:VK),Inv X pins σ H s->RelV x v->r x H Q ->
  wpAny (model X.prog X.w) X.A (f v) (EP X pins σ Q) X.xe s
def CallR(X:Cx)(f:Value)(r:List V->Hp->VK->Prop):Prop :=
 ∀ (pins:List (Addr×Obj)) (s:Shared) (σ:St) (H:Hp) (xs:List V) (us:List Value) (Q:VK),Inv X pins σ H s->Vals xs us->r xs H Q ->
  wpAny (model X.prog X.w) X.A (call f us) (EP X pins σ Q) X.xe s
def TruR(X:Cx)(r:V->Hp->(Bool->Hp->Prop)->Prop):Prop :=
 ∀ (pins:List (Addr×Obj)) (s:Shared) (σ:St) (H:Hp) (x:V) (v:Value) (Q:Bool->Hp->Prop),Inv X pins σ H s->RelV x v->r x H Q ->
  wpAny (model X.prog X.w) X.A (truthy v) (TP X pins σ Q) X.xe s
def tOp(r:R2)(ta tb:TE):TE:=fun σ H Q=>ta σ H fun x H1=>tb σ H1 fun y H2=>r x y H2 Q
def tUn(r:V->Hp->VK->Prop)(ta:TE):TE:=fun σ H Q=>ta σ H fun x H1=>r x H1 Q
def rI(C:Int->Int->Prop)(g:Int->Int->V):R2:=fun x y H Q=>∃ i j,x = .int i/\y = .int j/\C i j/\Q (g i j) H
def rI0(g:Int->Int->V):R2:=fun x y H Q=>∃ i j,x = .int i/\y = .int j/\Q (g i j) H
def rU(g:Int->V):V->Hp->VK->Prop:=fun x H Q=>∃ i,x = .int i/\Q (g i) H
section
variable {X:Cx} {a b c:Expr} {ta tb tc:TE} {pos:Pos}
theorem binT(ha:PE X a ta)(hb:PE X b tb){pins:List (Addr×Obj)}{s:Shared}{σ:St}{H:Hp}{R:V->V->Hp->Prop}(I:Inv X pins σ H s)
  (h:ta σ H fun x H1=>tb σ H1 fun y H2=>R x y H2) {Q:Value->Shared->Prop} {f:Value->Value->Sem Value}
  (hf:∀ v u s2 x y H2,Inv X pins σ H2 s2->RelV x v->RelV y u->R x y H2->wpAny (model X.prog X.w) X.A (f v u) Q X.xe s2) :
  wpAny (model X.prog X.w) X.A (eval a X.env) (fun v s₁=>wpAny (model X.prog X.w) X.A (eval b X.env) (fun u s₂=>wpAny (model X.prog X.w) X.A (f v u) Q X.xe s₂) X.xe s₁) X.xe s:=by
 refine thn (ha pins s σ H _ I h) fun v s1 ⟨x,H1,I1,r1,q1⟩=>?_
 refine thn (hb pins s1 σ H1 _ I1 q1) fun u s2 ⟨y,H2,I2,r2,q2⟩=>?_
 exact hf v u s2 x y H2 I2 r1 r2 q2
theorem z_u{op:Operator}{r:R2}(ho:OpR X (binaryOp op) r)(ha:PE X a ta)(hb:PE X b tb):PE X (.BinOp a op b pos) (tOp r ta tb):=by
 intro pins s σ H Q I h
 exact wpAny_BinOp (binT ha hb I h fun v u s2 x y H2 I2 rx ry q=>ho pins s2 σ H2 x y v u Q I2 rx ry q)
theorem o_i{op:UnaryOp}{r:V->Hp->VK->Prop}(ho:UnR X (unaryOp op) r)(ha:PE X a ta):PE X (.UnaryOp op a pos) (tUn r ta):=by
 intro pins s σ H Q I h
 exact UnaryOp_ (thn (ha pins s σ H _ I h) fun v s1 ⟨x,H1,I1,r1,q1⟩=>ho pins s1 σ H1 x v Q I1 r1 q1)
theorem opI{f:Value->Value->Sem Value}{C:Int->Int->Prop}{g:Int->Int->Int}
  (rule:∀ (i j:Int) (t u:Tok) (s:Shared) (Q:Value->Shared->Prop) (E:Value->Shared->Prop),C i j->Q (.int (g i j) s.toks) { s with toks:=s.toks+1 }->wpAny (model X.prog X.w) X.A (f (.int i t) (.int j u)) Q E s) :
  OpR X f (rI C fun i j=>.int (g i j)):=by
 intro pins s σ H x y v u Q I rx ry h
 obtain ⟨i,j,rfl,rfl,hc,q⟩:=h
 obtain ⟨t,rfl⟩:=rx
 obtain ⟨t',rfl⟩:=ry
 exact rule i j t t' s _ _ hc ⟨.int (g i j),H,I.tok _,⟨_,rfl⟩,q⟩
theorem opI0{f:Value->Value->Sem Value}{g:Int->Int->Int}
  (rule:∀ (i j:Int) (t u:Tok) (s:Shared) (Q:Value->Shared->Prop) (E:Value->Shared->Prop),Q (.int (g i j) s.toks) { s with toks:=s.toks+1 }->wpAny (model X.prog X.w) X.A (f (.int i t) (.int j u)) Q E s) :
  OpR X f (rI0 fun i j=>.int (g i j)):=by
 intro pins s σ H x y v u Q I rx ry h
 obtain ⟨i,j,rfl,rfl,q⟩:=h
 obtain ⟨t,rfl⟩:=rx
 obtain ⟨t',rfl⟩:=ry
 exact rule i j t t' s _ _ ⟨.int (g i j),H,I.tok _,⟨_,rfl⟩,q⟩
theorem opB0{f:Value->Value->Sem Value}{g:Int->Int->Bool}
  (rule:∀ (i j:Int) (t u:Tok) (s:Shared) (Q:Value->Shared->Prop) (E:Value->Shared->Prop),Q (.bool (g i j)) s->wpAny (model X.prog X.w) X.A (f (.int i t) (.int j u)) Q E s) :
  OpR X f (rI0 fun i j=>.bl (g i j)):=by
 intro pins s σ H x y v u Q I rx ry h
 obtain ⟨i,j,rfl,rfl,q⟩:=h
 obtain ⟨t,rfl⟩:=rx
 obtain ⟨t',rfl⟩:=ry
 exact rule i j t t' s _ _ ⟨.bl (g i j),H,I,rfl,q⟩
def CPow(i j:Int):Prop:=0<=j/\j<=1000000/\i.natAbs<2^64
def CMul(i j:Int):Prop:=(-(2^64)<i/\i<2^64)\/(-(2^64)<j/\j<2^64)
theorem CMul.ok{i j:Int}(h:CMul i j):IntMulOk i j:=by
 rcases h with ⟨h1,h2⟩ | ⟨h1,h2⟩
 ·exact .of_left (intBits_le_64 h1 h2)
 ·exact .of_right (intBits_le_64 h1 h2)
theorem y_w:OpR X (binaryOp .Add) (rI0 fun i j=>.int (i+j)):=opI0 fun _ _ _ _ _ _ _ q=>add_int q
theorem r_f:OpR X (binaryOp .Sub) (rI0 fun i j=>.int (i-j)):=opI0 fun _ _ _ _ _ _ _ q=>sub_int q
theorem s_l:OpR X (binaryOp .Mult) (rI CMul fun i j=>.int (i*j)):=opI fun _ _ _ _ _ _ _ hc q=>mul_int q hc.ok
theorem s_k:OpR X (binaryOp .Mod) (rI (fun _ j=>0<j) fun i j=>.int (i%j)):=opI fun i j _ _ _ _ _ hc q=>by
 have h1:(0:Int)<j:=hc
 exact mod_int' (by lia) (by rw [Int.fmod_eq_emod_of_nonneg i (by lia)];exact q)
theorem op_pow:OpR X (binaryOp .Pow) (rI CPow fun i j=>.int (i^j.toNat)):=opI fun _ _ _ _ _ _ _ hc q=>pow_int_small hc.1 hc.2.1 hc.2.2 q
theorem m_n:OpR X (binaryOp .LShift) (rI CPow fun i j=>.int (i*2^j.toNat)):=opI fun _ _ _ _ _ _ _ hc q=>lshift_int_small hc.1 hc.2.1 hc.2.2 q
theorem unI{f:Value->Sem Value}{g:Int->Int}
  (rule:∀ (i:Int) (t:Tok) (s:Shared) (Q:Value->Shared->Prop) (E:Value->Shared->Prop),Q (.int (g i) s.toks) { s with toks:=s.toks+1 }->wpAny (model X.prog X.w) X.A (f (.int i t)) Q E s) :
  UnR X f (rU fun i=>.int (g i)):=by
 intro pins s σ H x v Q I rx h
 obtain ⟨i,rfl,q⟩:=h
 obtain ⟨t,rfl⟩:=rx
 exact rule i t s _ _ ⟨.int (g i),H,I.tok _,⟨_,rfl⟩,q⟩
theorem s_n:UnR X (unaryOp .USub) (rU fun i=>.int (-i)):=unI fun _ _ _ _ _ q=>neg_int q
end
def scal:V->V->Bool
 | .non,.non=>true | .non,.int _=>true | .int _,.non=>true | .non,.bl _=>true | .bl _,.non=>true | .non,.str _=>true | .str _,.non=>true
 | .int _,.int _=>true | .bl _,.bl _=>true | .str _,.str _=>true | .byt _,.byt _=>true
 | .int _,.str _=>true | .str _,.int _=>true | .bl _,.str _=>true | .str _,.bl _=>true
 | _,_=>false
def rEq:R2:=fun x y H Q=>scal x y=true/\Q (.bl (decide (x=y))) H
def rNe:R2:=fun x y H Q=>scal x y=true/\Q (.bl (!decide (x=y))) H
theorem k_y{i j:Int}:decide (V.int i=V.int j)=(i == j):=by
 rw [Bool.eq_iff_iff]
 simp
theorem dec_bl{i j:Bool}:decide (V.bl i=V.bl j)=(i == j):=by
 rw [Bool.eq_iff_iff]
 simp
theorem k_z{i j:Str}:decide (V.str i=V.str j)=(i == j):=by
 rw [Bool.eq_iff_iff]
 simp
theorem k_x{i j:Array UInt8}:decide (V.byt i=V.byt j)=(i.toList == j.toList):=by
 rw [Bool.eq_iff_iff]
 cases i
 cases j
 simp
section
variable {X:Cx} {a b c:Expr} {ta tb tc:TE} {pos:Pos}
theorem y_v{pins:List (Addr×Obj)}{σ:St}{H:Hp}{s:Shared}{Q:VK}{k k':Bool}(I:Inv X pins σ H s)(q:Q (.bl k) H)(e:k=k'):EP X pins σ Q (.bool k') s:=by
 subst e
 exact ⟨.bl k,H,I,rfl,q⟩
theorem y_q:OpR X (compareOp .Eq) rEq:=by
 intro pins s σ H x y v u Q I rx ry h
 obtain ⟨hs,q⟩:=h
 cases x with
 | non =>
  cases rx
  cases y with
  | non=>cases ry;exact PySem.EqNone.eq_none_none (y_v I q (by simp))
  | bl j=>cases ry;exact PySem.EqNone.eq_none_bool (y_v I q (by simp))
  | int j=>obtain ⟨t',rfl⟩:=ry;exact PySem.EqNone.eq_none_int (y_v I q (by simp))
  | str j=>obtain ⟨t',rfl⟩:=ry;exact PySem.EqNone.eq_none_str (y_v I q (by simp))
  | _=>exact absurd (show false=true from hs) Bool.false_ne_true
 | bl i =>
  cases rx
  cases y with
  | non=>cases ry;exact PySem.EqNone.eq_bool_none (y_v I q (by simp))
  | bl j=>cases ry;exact eq_bool (y_v I q dec_bl)
  | str j=>obtain ⟨t',rfl⟩:=ry;exact PySem.EqMixed.eq_bool_str (y_v I q (by simp))
  | _=>exact absurd (show false=true from hs) Bool.false_ne_true
 | int i =>
  obtain ⟨t,rfl⟩:=rx
  cases y with
  | non=>cases ry;exact PySem.EqNone.eq_int_none (y_v I q (by simp))
  | int j=>obtain ⟨t',rfl⟩:=ry;exact eq_int (y_v I q k_y)
  | str j=>obtain ⟨t',rfl⟩:=ry;exact PySem.EqMixed.eq_int_str (y_v I q (by simp))
  | _=>exact absurd (show false=true from hs) Bool.false_ne_true
 | str i =>
  obtain ⟨t,rfl⟩:=rx
  cases y with
  | non=>cases ry;exact PySem.EqNone.eq_str_none (y_v I q (by simp))
  | bl j=>cases ry;exact PySem.EqMixed.eq_str_bool (y_v I q (by simp))
  | int j=>obtain ⟨t',rfl⟩:=ry;exact PySem.EqMixed.eq_str_int (y_v I q (by simp))
  | str j=>obtain ⟨t',rfl⟩:=ry;exact eq_str (y_v I q k_z)
  | _=>exact absurd (show false=true from hs) Bool.false_ne_true
 | byt i =>
  obtain ⟨t,rfl⟩:=rx
  cases y with
  | byt j=>obtain ⟨t',rfl⟩:=ry;exact PySem.W.eq_bytes (y_v I q k_x)
  | _=>exact absurd (show false=true from hs) Bool.false_ne_true
 | _=>cases y<;>exact absurd (show false=true from hs) Bool.false_ne_true
theorem n_j:OpR X (compareOp .NotEq) rNe:=by
 intro pins s σ H x y v u Q I rx ry h
 obtain ⟨hs,q⟩:=h
 cases x with
 | non =>
  cases rx
  cases y with
  | non=>cases ry;exact PySem.EqNone.ne_none_none (y_v I q (by simp))
  | bl j=>cases ry;exact PySem.EqNone.ne_none_bool (y_v I q (by simp))
  | int j=>obtain ⟨t',rfl⟩:=ry;exact PySem.EqNone.ne_none_int (y_v I q (by simp))
  | str j=>obtain ⟨t',rfl⟩:=ry;exact PySem.EqNone.ne_none_str (y_v I q (by simp))
  | _=>exact absurd (show false=true from hs) Bool.false_ne_true
 | bl i =>
  cases rx
  cases y with
  | non=>cases ry;exact PySem.EqNone.ne_bool_none (y_v I q (by simp))
  | bl j=>cases ry;exact ne_bool (y_v I q (congrArg not dec_bl))
  | str j=>obtain ⟨t',rfl⟩:=ry;exact PySem.EqMixed.ne_bool_str (y_v I q (by simp))
  | _=>exact absurd (show false=true from hs) Bool.false_ne_true
 | int i =>
  obtain ⟨t,rfl⟩:=rx
  cases y with
  | non=>cases ry;exact PySem.EqNone.ne_int_none (y_v I q (by simp))
  | int j=>obtain ⟨t',rfl⟩:=ry;exact ne_int (y_v I q (congrArg not k_y))
  | str j=>obtain ⟨t',rfl⟩:=ry;exact PySem.EqMixed.ne_int_str (y_v I q (by simp))
  | _=>exact absurd (show false=true from hs) Bool.false_ne_true
 | str i =>
  obtain ⟨t,rfl⟩:=rx
  cases y with
  | non=>cases ry;exact PySem.EqNone.ne_str_none (y_v I q (by simp))
  | bl j=>cases ry;exact PySem.EqMixed.ne_str_bool (y_v I q (by simp))
  | int j=>obtain ⟨t',rfl⟩:=ry;exact PySem.EqMixed.ne_str_int (y_v I q (by simp))
  | str j=>obtain ⟨t',rfl⟩:=ry;exact ne_str (y_v I q (congrArg not k_z))
  | _=>exact absurd (show false=true from hs) Bool.false_ne_true
 | byt i =>
  obtain ⟨t,rfl⟩:=rx
  cases y with
  | byt j=>obtain ⟨t',rfl⟩:=ry;exact PySem.W.ne_bytes (y_v I q (congrArg not k_x))
  | _=>exact absurd (show false=true from hs) Bool.false_ne_true
 | _=>cases y<;>exact absurd (show false=true from hs) Bool.false_ne_true
theorem op_lt:OpR X (compareOp .Lt) (rI0 fun i j=>.bl (decide (i<j))):=opB0 fun _ _ _ _ _ _ _ q=>lt_int q
theorem q_a:OpR X (compareOp .LtE) (rI0 fun i j=>.bl (decide (i<=j))):=opB0 fun _ _ _ _ _ _ _ q=>le_int q
theorem o_f:OpR X (compareOp .Gt) (rI0 fun i j=>.bl (decide (j<i))):=opB0 fun _ _ _ _ _ _ _ q=>gt_int q
theorem op_ge:OpR X (compareOp .GtE) (rI0 fun i j=>.bl (decide (j<=i))):=opB0 fun _ _ _ _ _ _ _ q=>ge_int q
theorem nomark(b:Expr){op:CmpOp}(h:op ≠ .In:=by decide)(h2:op ≠ .NotIn:=by decide):behindInMarks op b=false:=by
 have e1:(op == CmpOp.In)=false:=by cases op<;>first | rfl | exact absurd rfl h
 have e2:(op == CmpOp.NotIn)=false:=by cases op<;>first | rfl | exact absurd rfl h2
 cases b<;>simp [behindInMarks,e1,e2]
theorem x_q{op:CmpOp}{r:R2}(ho:OpR X (compareOp op) r)(ha:PE X a ta)(hb:PE X b tb)(hm:behindInMarks op b=false):PE X (.Compare a [op] [b] pos) (tOp r ta tb):=by
 intro pins s σ H Q I h
 exact wpAny_Compare1 (binT ha hb I h fun v u s2 x y H2 I2 rx ry q=>ho pins s2 σ H2 x y v u Q I2 rx ry q) hm
def tTest(t:TE):TT:=fun σ H Q=>t σ H fun x H'=>∃ k,x = .bl k/\Q k H'
theorem z_o{op:CmpOp}{r:R2}(ho:OpR X (compareOp op) r)(ha:PE X a ta)(hb:PE X b tb)(hm:behindInMarks op b=false):PT X (.Compare a [op] [b] pos) (tTest (tOp r ta tb)):=by
 intro pins s σ H Q I h
 refine wpAny_isTrue_Compare1 (thn (ha pins s σ H _ I h) fun v s1 ⟨x,H1,I1,r1,q1⟩=>thn (hb pins s1 σ H1 _ I1 q1) fun u s2 ⟨y,H2,I2,r2,q2⟩ =>
  thn (ho pins s2 σ H2 x y v u _ I2 r1 r2 q2) fun c s3 ⟨z,H3,I3,r3,k,e,q3⟩=>?_) hm
 subst e
 cases r3
 exact wpAny_truthy_bool ⟨H3,I3,q3⟩
def tChain(r r':R2)(ta tb tc:TE):TE:=fun σ H Q=>ta σ H fun x H1=>tb σ H1 fun y H2=>r x y H2 fun z H3=>∃ k,z = .bl k /\
 (if k=true then tc σ H3 fun w' H4=>r' y w' H4 Q else Q (.bl false) H3)
theorem s_q{op op':CmpOp}{r r':R2}(ho:OpR X (compareOp op) r)(ho':OpR X (compareOp op') r')(ha:PE X a ta)(hb:PE X b tb)(hc:PE X c tc)
  (hm:lastMarks [op,op'] [b,c]=false:=by with_unfolding_all rfl):PE X (.Compare a [op,op'] [b,c] pos) (tChain r r' ta tb tc):=by
 intro pins s σ H Q I h
 refine Compare_chain (thn (ha pins s σ H _ I h) fun v s1 ⟨x,H1,I1,r1,q1⟩=>chain_link (thn (hb pins s1 σ H1 _ I1 q1) fun u s2 ⟨y,H2,I2,r2,q2⟩ =>
  thn (ho pins s2 σ H2 x y v u _ I2 r1 r2 q2) fun d s3 ⟨z,H3,I3,r3,k,e,q3⟩=>?_)) hm
 subst e
 cases r3
 refine wpAny_truthy_bool ?_
 cases k with
 | false=>exact ite_ff ⟨.bl false,H3,I3,rfl,q3⟩
 | true=>exact ite_tt (chain_last (thn (hc pins s3 σ H3 _ I3 q3) fun w' s4 ⟨z',H4,I4,r4,q4⟩=>ho' pins s4 σ H4 y z' u w' Q I4 r2 r4 q4))
theorem m_r{op op':CmpOp}{r r':R2}(ho:OpR X (compareOp op) r)(ho':OpR X (compareOp op') r')(ha:PE X a ta)(hb:PE X b tb)(hc:PE X c tc)
  (hm:lastMarks [op,op'] [b,c]=false:=by with_unfolding_all rfl):PT X (.Compare a [op,op'] [b,c] pos) (tTest (tChain r r' ta tb tc)):=by
 intro pins s σ H Q I h
 refine isTrue_chain (thn (ha pins s σ H _ I h) fun v s1 ⟨x,H1,I1,r1,q1⟩=>test_link (thn (hb pins s1 σ H1 _ I1 q1) fun u s2 ⟨y,H2,I2,r2,q2⟩ =>
  thn (ho pins s2 σ H2 x y v u _ I2 r1 r2 q2) fun d s3 ⟨z,H3,I3,r3,k,e,q3⟩=>?_)) hm
 subst e
 cases r3
 refine wpAny_truthy_bool ?_
 cases k with
 | false =>
  obtain ⟨k',e',q'⟩:=q3
  cases e'
  exact ite_ff ⟨H3,I3,q'⟩
 | true =>
  refine ite_tt (test_last (thn (hc pins s3 σ H3 _ I3 q3) fun w' s4 ⟨z',H4,I4,r4,q4⟩=>thn (ho' pins s4 σ H4 y z' u w' _ I4 r2 r4 q4) fun d' s5 ⟨z2,H5,I5,r5,k2,e2,q5⟩=>?_))
  subst e2
  cases r5
  exact wpAny_truthy_bool ⟨H5,I5,q5⟩
def TruV(K:PySem.W.Frag)(x:V)(H:Hp)(k:Bool):Prop :=
 match x with
 | .non=>k=false
 | .bl b=>k=b
 | .int i=>k=(i != 0)
 | .str y=>y.length<=sizeLine/\k=((y.length:Int) != 0)
 | .byt y=>y.size<=sizeLine/\k=((y.size:Int) != 0)
 | .ref p=>(∃ xs,SqL K H p xs/\k = !xs.isEmpty)\/(∃ xs,SqT K H p xs/\k = !xs.isEmpty)\/∃ kvs,H p=some (.dK kvs)/\k = !kvs.isEmpty
 | _=>False
theorem l_r{κ:Type}{kvs:List (κ×V)}{vs:List (κ×Value)}(r:KV kvs vs):(!vs.isEmpty) = !kvs.isEmpty:=by
 cases r<;>rfl
theorem q_e{xs:List V}{its:List Value}(r:Vals xs its):(!its.toArray.isEmpty) = !xs.isEmpty:=by
 cases r<;>simp
theorem line63:(sizeLine:Nat)<2^63:=by rw [sizeLine_eq];decide
theorem tru_ok:TruR X (fun x H Q=>∃ k,TruV X.K x H k/\Q k H):=by
 intro pins s σ H x v Q I rx h
 obtain ⟨k,e,q⟩:=h
 have hl:=line63
 have hs:sizeLine=16777216:=sizeLine_eq
 cases x with
 | non =>
  cases rx
  have e':k=false:=e
  subst e'
  exact truthy_none ⟨H,I,q⟩
 | bl b =>
  cases rx
  have e':k=b:=e
  subst e'
  exact wpAny_truthy_bool ⟨H,I,q⟩
 | int i =>
  obtain ⟨t,rfl⟩:=rx
  have e':k=(i != 0):=e
  subst e'
  exact PySem.P.truthy_int ⟨H,I,q⟩
 | str y =>
  obtain ⟨t,rfl⟩:=rx
  obtain ⟨hy,e'⟩:y.length<=sizeLine/\k=((y.length:Int) != 0):=e
  subst e'
  exact PySem.P.truthy_str (by lia) ⟨H,I.tok _,q⟩
 | byt y =>
  obtain ⟨t,rfl⟩:=rx
  obtain ⟨hy,e'⟩:y.size<=sizeLine/\k=((y.size:Int) != 0):=e
  subst e'
  exact PySem.W.truthy_bytes (by lia) ⟨H,I.tok _,q⟩
 | ref p =>
  cases rx
  have e':(∃ xs,SqL X.K H p xs/\k = !xs.isEmpty)\/(∃ xs,SqT X.K H p xs/\k = !xs.isEmpty)\/∃ kvs,H p=some (.dK kvs)/\k = !kvs.isEmpty:=e
  rcases e' with ⟨xs,hx,e'⟩ | ⟨xs,hx,e'⟩ | ⟨kvs,hx,e'⟩
  ·subst e'
   obtain ⟨its,r,pl,hz⟩:=I.list hx
   have hlen:=r.length
   exact wpAny_truthy_list pl.isList (by simp only [List.size_toArray];lia) ⟨H,I.tok _,by rw [q_e r];exact q⟩
  ·subst e'
   obtain ⟨its,r,pl,hz⟩:=I.tuple hx
   have hlen:=r.length
   exact truthy_tuple pl (by simp only [List.size_toArray];lia) ⟨H,I.tok _,by rw [q_e r];exact q⟩
  ·subst e'
   obtain ⟨hz,hS,vs,r,m⟩:kvs.length<=sizeLine/\(p == sysModules)=false/\∃ vs,KV kvs vs/\s.heap.DictOf (mixKind X.prog X.w) p vs:=I.hok p _ hx
   have hlen:kvs.length=vs.length:=Paired.length r
   exact wpAny_truthy_dict hS m (by lia) ⟨H,I.tok _,by rw [l_r r];exact q⟩
 | _=>exact (show False from e).elim
theorem y_c(ha:PE X a ta)(he:∀ whole,isTrue a X.env whole=(do let v <-whole;standAt a.pos;holding [v] (truthy v))) :
  PT X a (fun σ H Q=>ta σ H fun x H'=>∃ k,TruV X.K x H' k/\Q k H'):=by
 intro pins s σ H Q I h
 exact isTrue_plain (thn (ha pins s σ H _ I h) fun v s1 ⟨x,H1,I1,r1,q1⟩=>tru_ok pins s1 σ H1 x v Q I1 r1 q1) (he _)
theorem y_i:OpR X (binaryOp .Add) (fun x y H Q=>∃ i j,x = .str i/\y = .str j/\i.length+j.length<=sizeLine/\Q (.str (i++j)) H):=by
 intro pins s σ H x y v u Q I rx ry h
 obtain ⟨i,j,rfl,rfl,hz,q⟩:=h
 obtain ⟨t,rfl⟩:=rx
 obtain ⟨t',rfl⟩:=ry
 exact add_str (fun t' tk=>⟨.str (i++j),H,I.tok _,⟨_,rfl⟩,q⟩) hz
theorem vals1{x:V}{us:List Value}(r:Vals [x] us):∃ u,us=[u]/\RelV x u:=by
 cases r with
 | cons r1 r2=>cases r2;exact ⟨_,rfl,r1⟩
theorem vals2{x y:V}{us:List Value}(r:Vals [x,y] us):∃ u w',us=[u,w']/\RelV x u/\RelV y w':=by
 cases r with
 | cons r1 r2 =>
  cases r2 with
  | cons r3 r4=>cases r4;exact ⟨_,_,rfl,r1,r3⟩
theorem call_abs:CallR X (.builtin "abs") (fun xs H Q=>∃ i,xs=[.int i]/\Q (.int (if i<0 then -i else i)) H):=by
 intro pins s σ H xs us Q I r h
 obtain ⟨i,rfl,q⟩:=h
 obtain ⟨u,rfl,t,rfl⟩:=vals1 r
 exact call_abs_int fun u tk=>⟨.int (if i<0 then -i else i),H,I.tok _,⟨_,rfl⟩,q⟩
theorem p_q(hc:X.calm=true):CallR X (.builtin "max") (fun xs H Q=>∃ i j,xs=[.int i,.int j]/\Q (.int (if j > i then j else i)) H):=by
 intro pins s σ H xs us Q I r h
 obtain ⟨i,j,rfl,q⟩:=h
 obtain ⟨u,w',rfl,⟨t,rfl⟩,⟨t',rfl⟩⟩:=vals2 r
 refine max_two_ints (I.ok.hd hc) fun h' tk k=>⟨_,H,I.kept k,?_,q⟩
 by_cases hj:j > i
 ·rw [if_pos hj,if_pos hj];exact ⟨_,rfl⟩
 ·rw [if_neg hj,if_neg hj];exact ⟨_,rfl⟩
theorem p_r(hc:X.calm=true):CallR X (.builtin "min") (fun xs H Q=>∃ i j,xs=[.int i,.int j]/\Q (.int (if j<i then j else i)) H):=by
 intro pins s σ H xs us Q I r h
 obtain ⟨i,j,rfl,q⟩:=h
 obtain ⟨u,w',rfl,⟨t,rfl⟩,⟨t',rfl⟩⟩:=vals2 r
 refine min_two_ints (I.ok.hd hc) fun h' tk k=>⟨_,H,I.kept k,?_,q⟩
 by_cases hj:j<i
 ·rw [if_pos hj,if_pos hj];exact ⟨_,rfl⟩
 ·rw [if_neg hj,if_neg hj];exact ⟨_,rfl⟩
theorem p_p:CallR X (.type "int") (fun xs H Q=>(∃ i,xs=[.int i]/\Q (.int i) H)\/∃ k,xs=[.bl k]/\Q (.int (if k then 1 else 0)) H):=by
 intro pins s σ H xs us Q I r h
 rcases h with ⟨i,rfl,q⟩ | ⟨k,rfl,q⟩
 ·obtain ⟨u,rfl,t,rfl⟩:=vals1 r
  exact call_int_int ⟨.int i,H,I,⟨_,rfl⟩,q⟩
 ·obtain ⟨u,rfl,r1⟩:=vals1 r
  cases r1
  exact call_int_bool ⟨.int (if k then 1 else 0),H,I.tok _,⟨_,rfl⟩,q⟩
theorem y_t:CallR X (.type "str") (fun xs H Q=>∃ i,xs=[.int i]/\i.natAbs.log2<1920/\Q (.str (toString i)) H):=by
 intro pins s σ H xs us Q I r h
 obtain ⟨i,rfl,hz,q⟩:=h
 obtain ⟨u,rfl,t,rfl⟩:=vals1 r
 exact PySem.P.str_of_int hz ⟨.str _,H,I.tok _,⟨_,rfl⟩,q⟩
def LenV(K:PySem.W.Frag)(x:V)(H:Hp)(n:Nat):Prop :=
 match x with
 | .str y=>y.length<=sizeLine/\n=y.length
 | .byt y=>y.size<=sizeLine/\n=y.size
 | .ref p=>(∃ xs,SqL K H p xs/\n=xs.length)\/∃ xs,SqT K H p xs/\n=xs.length
 | _=>False
theorem z_w:CallR X (.builtin "len") (fun xs H Q=>∃ x n,xs=[x]/\LenV X.K x H n/\Q (.int n) H):=by
 intro pins s σ H xs us Q I r h
 obtain ⟨x,n,rfl,e,q⟩:=h
 obtain ⟨u,rfl,rx⟩:=vals1 r
 have hl:=line63
 have hs:sizeLine=16777216:=sizeLine_eq
 cases x with
 | str y =>
  obtain ⟨t,rfl⟩:=rx
  obtain ⟨hy,e'⟩:y.length<=sizeLine/\n=y.length:=e
  subst e'
  exact len_str (by lia) ⟨.int _,H,I.tok _,⟨_,rfl⟩,q⟩
 | byt y =>
  obtain ⟨t,rfl⟩:=rx
  obtain ⟨hy,e'⟩:y.size<=sizeLine/\n=y.size:=e
  subst e'
  exact PySem.W.len_bytes (by lia) ⟨.int _,H,I.tok _,⟨_,rfl⟩,q⟩
 | ref p =>
  cases rx
  have e':(∃ xs,SqL X.K H p xs/\n=xs.length)\/∃ xs,SqT X.K H p xs/\n=xs.length:=e
  rcases e' with ⟨xs,hx,e'⟩ | ⟨xs,hx,e'⟩
  ·subst e'
   obtain ⟨its,r',pl,hz⟩:=I.list hx
   have hlen:=r'.length
   exact Calls.call_len_list pl.isList (by simp only [List.size_toArray];lia) ⟨.int xs.length,H,I.tok _,⟨_,by simp only [List.size_toArray];rw [hlen]⟩,q⟩
  ·subst e'
   obtain ⟨its,r',pl,hz⟩:=I.tuple hx
   have hlen:=r'.length
   exact len_tuple pl (by simp only [List.size_toArray];lia) ⟨.int xs.length,H,I.tok _,⟨_,by simp only [List.size_toArray];rw [hlen]⟩,q⟩
 | _=>exact (show False from e).elim
end
open PySem PySem.Spec PyProof.Rows
structure ObjM(h:Heap)(x dx C:Addr)(mA:Str->Option Value):Prop where
 obj:h.get? x=some (instObj C dx)
 ns:h.Ns1 dx mA
 ne:dx≠x
theorem j_p{h:Heap}{dx:Addr}{mA:Str->Option Value}(n:h.Ns1 dx mA):∃ od,h.get? dx=some od/\∀ name,lookIn name od=some (mA name):=by
 obtain ⟨o,es,ep,ho,hd,hk,_,hm⟩:=n
 refine ⟨o,ho,fun name=>?_⟩
 have e:=hm name
 unfold nsFind findBy at e
 rw [<-Array.find?_toList] at e
 unfold lookIn
 rw [hd]
 dsimp only
 split
 ·rename_i y q
  rw [q] at e
  exact congrArg some e
 ·rename_i q
  rw [q] at e
  have a:es.toList.any (·.refKey)=false:=by
   rw [List.any_eq_false]
   intro y hy
   obtain ⟨z,t,hkey⟩:=hk y (Array.mem_toList_iff.mp hy)
   simp [DictEntry.refKey,hkey]
  have a':¬es.toList.any (·.refKey)=true:=by rw [a];exact Bool.false_ne_true
  rw [if_neg a']
  exact congrArg some e
theorem ObjM.look{h:Heap}{x dx C:Addr}{mA:Str->Option Value}(I:ObjM h x dx C mA):∃ od,PySem.W.InstAt h x (instObj C dx) C (some od)/\∀ name,lookIn name od=some (mA name) :=
 let ⟨od,ho,hl⟩:=j_p I.ns
 ⟨od,⟨I.obj,rfl,rfl,ho⟩,hl⟩
theorem RelO.some_of{v:V}{o:Option Value}(r:RelO (some v) o):∃ u,o=some u/\RelV v u:=by
 cases o with
 | none=>exact (show False from r).elim
 | some u=>exact ⟨u,rfl,r⟩
section
variable {P:Program} {w:World} {H H':Hp} {h h':Heap} {a C dx:Addr} {fs fs':List (Str×V)}
theorem j_g(hok:HOk P w H h)(e:H a=some (.ins C dx fs)):∃ mA,ObjM h a dx C mA/\(∀ f,RelO (fs.lookup f) (mA f))/\PySem.Within mA (fs.map (·.1))/\fs.length<=1000/\H dx=some (.own a):=by
 obtain ⟨d,z,ne,ob,mA,n,r,q⟩:=(show ObjOk P w H h a (.ins C dx fs) from hok a _ e)
 exact ⟨mA,⟨ob,n,ne⟩,r,q,z,d⟩
end
structure Cls(K:PySem.W.Frag)(C:Addr):Prop where
 pg:PySem.W.plainGet K C Str.empty=true
 hd:PySem.W.hasDictIn K C=true
 po:PySem.W.plainOver K C=true
 sa:PySem.W.findIn K (.ref C) "__setattr__" = some (some (.builtin "object.__setattr__"))
theorem Cls.get{K:PySem.W.Frag}{C:Addr}(c:Cls K C)(f:Str):PySem.W.plainGet K C f=true:=c.pg
section
variable {X:Cx} {pins:List (Addr×Obj)} {σ:St} {H:Hp} {s:Shared} {A:Around} {E:Value->Shared->Prop} {Q:Value->Shared->Prop} {c:Value} {b:Bool}
inductive TyOf (K:PySem.W.Frag) (H:Hp):V->Value->Prop where
 | non:TyOf K H .non (.type "NoneType")
 | bl (x:Bool):TyOf K H (.bl x) (.type "bool")
 | int (i:Int):TyOf K H (.int i) (.type "int")
 | str (x:Str):TyOf K H (.str x) (.type "str")
 | flt (x:UInt64):TyOf K H (.flt x) (.type "float")
 | lst {a:Addr} {xs:List V} (e:H a=some (.lst xs)):TyOf K H (.ref a) (.type "list")
 | frz {a:Addr} {o:Obj} {xs:List V} (e:H a=some (.frz o (.lst xs))):TyOf K H (.ref a) (.type "list")
 | tup {a:Addr} {xs:List V} (e:H a=some (.tup xs)):TyOf K H (.ref a) (.type "tuple")
 | dK {a:Addr} {kvs:List (Key×V)} (e:H a=some (.dK kvs)):TyOf K H (.ref a) (.type "dict")
 | dT {a:Addr} {kvs:List (List Key×V)} (e:H a=some (.dT kvs)):TyOf K H (.ref a) (.type "dict")
 | ins {a C dx:Addr} {fs:List (Str×V)} (e:H a=some (.ins C dx fs)) (cl:Cls K C) (ha:PySem.W.findIn K (.ref C) "__class__" = some (some (.builtin "object.__class__")))
   (hn:PySem.W.specialIn K (.builtin "object.__class__") "__get__" = some (some (.builtin "getset_descriptor.__get__"))) (htk:PySem.W.takesIn K (.builtin "object.__class__")=some true)
   (hm:PySem.W.mroIn K C (.type "object")=some true):TyOf K H (.ref a) (.ref C)
theorem j_i{x:V}{u t:Value}(I:Inv X pins σ H s)(rx:RelV x u)(ty:TyOf X.K H x t)(e:kitOne X.K t c=some b)(h:∀ tk,Q (.bool b) { s with toks:=tk }) :
  wpAny (model X.prog X.w) A (call (.builtin "isinstance") [u,c]) Q E s:=by
 cases ty with
 | non=>cases (show u=Value.none from rx);exact kia_one PySem.W.kitx_none I.kIn True.intro e (fun z=>nomatch z) h
 | bl y=>cases (show u=Value.bool y from rx);exact kia_one PySem.W.kitx_bool I.kIn True.intro e (fun z=>nomatch z) h
 | int i=>obtain ⟨t,q⟩:=(show ∃ t,u=Value.int i t from rx);cases q;exact kia_one PySem.W.kitx_int I.kIn True.intro e (fun z=>nomatch z) h
 | str y=>obtain ⟨t,q⟩:=(show ∃ t,u=Value.str y t from rx);cases q;exact kia_one PySem.W.kitx_str I.kIn True.intro e (fun z=>nomatch z) h
 | flt y=>obtain ⟨t,q⟩:=(show ∃ t,u=Value.float y t from rx);cases q;exact kia_one PySem.W.kitx_float I.kIn True.intro e (fun z=>nomatch z) h
 | @lst a xs ea =>
  cases (show u=Value.ref a from rx)
  obtain ⟨_,_,n,_,h1⟩:=(show ObjOk X.prog X.w H s.heap a (.lst xs) from I.hok a _ ea)
  exact kia_one kitx_list I.kIn ⟨_,h1,rfl⟩ e (fun z=>nomatch z) h
 | @frz a ob xs ea =>
  cases (show u=Value.ref a from rx)
  obtain ⟨_,_,_,n,_,h1⟩:=(show ObjOk X.prog X.w H s.heap a (.frz ob (.lst xs)) from I.hok a _ ea)
  exact kia_one kitx_list I.kIn ⟨_,h1,rfl⟩ e (fun z=>nomatch z) h
 | @tup a xs ea =>
  cases (show u=Value.ref a from rx)
  obtain ⟨_,_,_,p⟩:=(show ObjOk X.prog X.w H s.heap a (.tup xs) from I.hok a _ ea)
  obtain ⟨o,h1,h2,_⟩:=p
  exact kia_one PySem.W.kitx_tuple I.kIn ⟨o,h1,h2⟩ e (fun z=>nomatch z) h
 | @dK a kvs ea =>
  cases (show u=Value.ref a from rx)
  obtain ⟨_,_,vs,_,p⟩:=(show ObjOk X.prog X.w H s.heap a (.dK kvs) from I.hok a _ ea)
  obtain ⟨o,es,ep,h1,h2,_⟩:=p
  exact kia_one kitx_dict I.kIn ⟨o,h1,h2.1⟩ e (fun z=>nomatch z) h
 | @dT a kvs ea =>
  cases (show u=Value.ref a from rx)
  obtain ⟨_,_,xs,_,o,es,ep,h1,h2,_⟩:=(show ObjOk X.prog X.w H s.heap a (.dT kvs) from I.hok a _ ea)
  exact kia_one kitx_dict I.kIn ⟨o,h1,h2.1⟩ e (fun z=>nomatch z) h
 | @ins a C dx fs ea cl ha hn htk hm =>
  cases (show u=Value.ref a from rx)
  obtain ⟨mA,O,_⟩:=j_g I.hok ea
  obtain ⟨od,J,_⟩:=O.look
  exact kia_one (PySem.W.kitx_own (cl.get _) cl.hd ha hn htk hm) I.kIn J e (fun z=>nomatch z) h
end
open PySem PySem.Spec PyProof.Rows
structure Room(k:Nat)(A:Around):Prop where
 hd:A.handled=none
 dp:A.depth+3*k+5<recursionLimit
 un:A.units+16*k+200<cLine
theorem Room.mono{j k:Nat}{A:Around}(r:Room k A)(h:j<=k):Room j A:=⟨r.hd,by have:=r.dp;lia,by have:=r.un;lia⟩
theorem Room.deeper{k:Nat}{A:Around}(r:Room (k+1) A)(env:Env):Room k (A.deeper env) :=
 ⟨r.hd,by have:=r.dp;show A.depth+1+3*k+5<_;lia,by have:=r.un;show A.units+3+16*k+200<_;lia⟩
theorem Room.depth{k:Nat}{A:Around}(r:Room k A):A.depth<recursionLimit:=by have:=r.dp;lia
theorem Room.units{k:Nat}{A:Around}(r:Room k A):A.units+64<cLine:=by have:=r.un;lia
def tNil:TA:=fun _ H Q=>Q [] H
def tCons(ta:TE)(tr:TA):TA:=fun σ H Q=>ta σ H fun x H1=>tr σ H1 fun xs H2=>Q (x::xs) H2
section
variable {X:Cx} {e:Expr} {es:List Expr} {te:TE} {t:TA} {pos:Pos}
theorem z_b:PA X [] tNil:=fun _ _ _ _ H Q I h=>Calls.spliced_nil ⟨[],H,I,.nil,h⟩
theorem z_a(ha:PE X e te)(hr:PA X es t)(hs:starEach (e::es) X.env=(false,eval e X.env)::starEach es X.env:=by rfl):PA X (e::es) (tCons te t):=by
 intro pos pins s σ H Q I h
 rw [hs]
 show wpAny _ _ (spliced ((false,eval e X.env)::backTo pos (starEach es X.env))) _ _ s
 refine Calls.spliced_cons (thn (ha pins s σ H _ I h) fun u s1 ⟨x,H1,I1,r1,q1⟩=>?_)
 exact thn (hr pos pins s1 σ H1 _ I1 q1) fun us s2 ⟨xs,H2,I2,r2,q2⟩=>⟨x::xs,H2,I2,.cons r1 r2,q2⟩
def tTup(t:TA):TE:=fun σ H Q=>t σ H fun xs H1=>xs.length<=sizeLine/\∀ p,H1 p=none->Q (.ref p) (upd H1 p (.tup xs))
def tLst(t:TA):TE:=fun σ H Q=>t σ H fun xs H1=>xs.length<=sizeLine/\∀ p,H1 p=none->Q (.ref p) (upd H1 p (.lst xs))
theorem y_k{x1}(h:PA X es t):PE X (.Tuple es x1 pos) (tTup t):=by
 intro pins s σ H Q I hq
 refine wpAny_Tuple_spliced (thn (h pos pins s σ H _ I hq) fun us s1 ⟨xs,H1,I1,r,z,q⟩=>⟨by rw [<-r.length];exact z,?_⟩)
 have hf:H1 s1.heap.objs.size=none:=I1.hok.fresh (Nat.le_refl _)
 refine ⟨.ref s1.heap.objs.size,upd H1 s1.heap.objs.size (.tup xs),I1.laid (t':=s1.toks) (fun b u e=>Heap.get?_push_of_some _ e) (Nat.le_refl _) ?_,rfl,q _ hf⟩
 exact ⟨z,us,r,⟨_,Heap.get?_push_size _ rfl,rfl,_,rfl⟩⟩
theorem y_u(h:PA X es t):PE X (.List es pos) (tLst t):=by
 intro pins s σ H Q I hq
 refine wpAny_List_spliced (thn (h pos pins s σ H _ I hq) fun us s1 ⟨xs,H1,I1,r,z,q⟩=>⟨by rw [<-r.length];exact z,?_⟩)
 have hf:H1 s1.heap.objs.size=none:=I1.hok.fresh (Nat.le_refl _)
 refine ⟨.ref s1.heap.objs.size,upd H1 s1.heap.objs.size (.lst xs),I1.laid (t':=s1.toks) (fun b u e=>Heap.get?_push_of_some _ e) (Nat.le_refl _) ?_,rfl,q _ hf⟩
 exact ⟨z,us,0,r,Heap.get?_push_size _ rfl⟩
end
abbrev Sp:=List V->Hp->VK->XK->Prop
abbrev CXT:=List Env->Hp->Shared->XK->Value->Shared->Prop
structure Env0(P:Program)(w:World)(K:PySem.W.Frag)(mg:Str->Option Value)(base:Heap)(A:Around)(outer:List Env)(s:Shared)(H:Hp):Prop where
 frames:A.frames=some outer
 gd:A.guards=some []
 mod:Mod K mg base
 bs:∀ b o,base.get? b=some o->s.heap.get? b=some o/\H b=none
 bsz:base.objs.size<=s.heap.objs.size
 funs:s.heap.FunFrames base outer
 frf:∀ b∈frs outer,H b=none
 hok:HOk P w H s.heap
 bare:AllBare s.gens
def CE(outer:List Env)(P:Program)(w:World)(H:Hp)(s:Shared)(Q:VK)(u:Value)(s':Shared):Prop :=
 ∃ v H',s'.os=s.os/\AllBare s'.gens/\Un (frs outer) [] H H' s.heap s'.heap/\HOk P w H' s'.heap/\RelV v u/\Q v H'
def CR(CX:CXT)(outer:List Env)(P:Program)(w:World)(H:Hp)(s:Shared)(Q:VK)(E:XK)(r:Result)(s':Shared):Prop :=
 match r with
 | .ok (.ret u)=>CE outer P w H s Q u s'
 | .ok _=>False
 | .error e=>CX outer H s E e s'
structure FnOk(P:Program)(w:World)(K:PySem.W.Frag)(mg:Str->Option Value)(base:Heap)(CX:CXT)(k:Nat)(f:Addr)(fd:FuncData)(ps:List Str)(sp:Sp):Prop where
 len:∀ vs H Q E,sp vs H Q E->vs.length=ps.length
 run:∀ (A:Around) (outer:List Env) (s:Shared) (H:Hp) (args:Args) (us:List Value) (vs:List V) (Q:VK) (E:XK),Room k A->Env0 P w K mg base A outer s H->BindsTo s fd args (ps.zip us)->Vals vs us->sp vs H Q E ->
  codeAny (model P w) A (.call (.ref f) args) (CR CX outer P w H s Q E) s
theorem FnOk.mono{P:Program}{w:World}{K:PySem.W.Frag}{mg:Str->Option Value}{base:Heap}{CX:CXT}{j k:Nat}{f:Addr}{fd:FuncData}{ps:List Str}{sp:Sp}(F:FnOk P w K mg base CX j f fd ps sp)(h:j<=k) :
  FnOk P w K mg base CX k f fd ps sp:=⟨F.len,fun A outer s H args us vs Q E hr=>F.run A outer s H args us vs Q E (hr.mono h)⟩
section
variable {X:Cx} {pins:List (Addr×Obj)} {σ:St} {H:Hp} {s s':Shared}
theorem Inv.env0(I:Inv X pins σ H s):Env0 X.prog X.w X.K X.mg X.base X.A X.stack s H :=
 ⟨I.ok.frames,I.ok.gd,I.ok.mod,I.bs,Nat.le_trans I.ok.bsz I.sz,I.stack,I.stkFree,I.hok,I.bare⟩
theorem Inv.after{Q:VK}{u:Value}(I:Inv X pins σ H s)(h:CE X.stack X.prog X.w H s Q u s'):EP X pins σ Q u s':=by
 obtain ⟨v,H',os,bare,un,hok,r,q⟩:=h
 obtain ⟨hh,g,d,t,os'⟩:=s'
 obtain rfl:os'=s.os:=os
 exact ⟨v,H',I.call (h':=hh) (g':=g) (d':=d) (t':=t) (ch:=[]) un hok bare (fun b z=>absurd z (by simp)),r,q⟩
end
def tCall(sp:Sp)(dvs:List V)(E:XK)(t:TA):TE:=fun σ H Q=>t σ H fun vs H1=>sp (vs++dvs) H1 Q E
def Binds(K:PySem.W.Frag)(fd:FuncData)(ps:List Str)(ds:List Value):Prop :=
 ∀ (s:Shared) (us:List Value),K.In s.heap->(us++ds).length=ps.length->BindsTo s fd ⟨us,[]⟩ (ps.zip (us++ds))
theorem Binds.all{K:PySem.W.Frag}{fd:FuncData}{ps:List Str}(h:∀ us:List Value,us.length=ps.length->bindArgs fd ⟨us,[]⟩=pure (ps.zip us)):Binds K fd ps []:=fun s us _ hl=>by
 rw [List.append_nil] at hl ⊢
 exact .of_eq (h us hl)
def Passes(CX:CXT)(X:Cx)(E:XK):Prop:=∀ (pins:List (Addr×Obj)) (σ:St) (H:Hp) (s:Shared) (e:Value) (s':Shared),Inv X pins σ H s->CX X.stack H s E e s'->X.xe e s'
section
variable {X:Cx} {CX:CXT} {k:Nat} {f C:Addr} {fd:FuncData} {ps:List Str} {sp:Sp} {dvs:List V} {ds:List Value} {E:XK} {x m:Str} {p pos apos:Pos} {e o:Expr} {es:List Expr} {ta:TE} {t:TA}
theorem run_fn{pins:List (Addr×Obj)}{σ:St}{H:Hp}{s:Shared}{Q:VK}{us:List Value}{vs:List V}(F:FnOk X.prog X.w X.K X.mg X.base CX k f fd ps sp)(hr:Room k X.A)(hb:Binds X.K fd ps ds)(hd:Vals dvs ds)(hx:Passes CX X E)
  (I:Inv X pins σ H s) (r:Vals vs us) (h:sp (vs++dvs) H Q E):wpAny (model X.prog X.w) X.A (call (.ref f) us) (EP X pins σ Q) X.xe s:=by
 have r2:Vals (vs++dvs) (us++ds):=r.append hd
 have hl:(us++ds).length=ps.length:=by rw [<-r2.length];exact F.len _ _ _ _ h
 refine wpAny_call (codeAny_mono (F.run X.A X.stack s H ⟨us,[]⟩ (us++ds) (vs++dvs) Q E hr I.env0 (hb s us I.kIn hl) r2 h) fun r s' hq=>?_)
 cases r with
 | error e=>exact hx pins σ H s e s' I hq
 | ok fl =>
  cases fl with
  | ret u=>exact I.after hq
  | next=>exact False.elim hq
  | brk=>exact False.elim hq
  | cont=>exact False.elim hq
theorem z_h(F:FnOk X.prog X.w X.K X.mg X.base CX k f fd ps sp)(hr:Room k X.A)(hg:Gl X x)(hm:X.mg x=some (.ref f))(hk:keepIn X.K (.ref f)=true)(hb:Binds X.K fd ps ds)(hd:Vals dvs ds)(hx:Passes CX X E)
  (ha:PA X (e::es) t) (hdb:(x == ("__debug__" : Str))=false:=by decide) (he:starEach (e::es) X.env=(false,eval e X.env)::starEach es X.env:=by rfl) (hpl:(backTo pos (starEach es X.env)).any (·.1)=false:=by rfl) :
  PE X (.Call (.Name x p) (e::es) [] pos) (tCall sp dvs E t):=by
 intro pins s σ H Q I h
 refine wpAny_Call_Name_kw (j_n I hg hm ?_ hdb)
 refine PySem.W.callWith_K (h₀:=X.base) I.ok.mod.kin hk (thn (ha pos pins s σ H _ I h) fun us s1 ⟨vs,H1,I1,r,q⟩=>⟨I1.kIn,?_⟩) he hpl
 exact run_fn F hr hb hd hx I1 r q
end
structure FnScope(N P:List Str)(sc:Scope):Prop where
 kind:sc.kind = .function
 co:sc.isCoroutine=false
 gen:sc.isGenerator=false
 nd:N.Nodup
 pre:N.take P.length=P
 par:∀ x∈P,sc.names.lookup x=some .local\/sc.names.lookup x=some .cell
 nofree:∀ y∈sc.names,y.2 ≠ .free
theorem p_o{kindOf:Str->Option NameKind}{x:Str}:∀ {binds:List (Str×Value)} {m:Str->Option Value},(∀ v,(x,v)∉binds)->bindL kindOf binds m x=m x
 | [],_,_=>rfl
 | (n,v)::r,m,h=>by
  unfold bindL
  rw [p_o fun w hw=>h w (List.mem_cons_of_mem _ hw)]
  split
  ·have:x≠n:=by rintro rfl;exact h v List.mem_cons_self
   simp [this]
  ·rfl
theorem p_m{kindOf:Str->Option NameKind}{x:Str}:∀ {binds:List (Str×Value)} {m:Str->Option Value},(∀ v,(x,v)∉binds)->bindC kindOf binds m x=m x
 | [],_,_=>rfl
 | (n,v)::r,m,h=>by
  unfold bindC
  rw [p_m fun w hw=>h w (List.mem_cons_of_mem _ hw)]
  split
  ·rfl
  ·have:x≠n:=by rintro rfl;exact h v List.mem_cons_self
   simp [this]
theorem p_n{kindOf:Str->Option NameKind}{x:Str}{v:Value}:∀ {P:List Str} {vs:List Value} {i:Nat} {m:Str->Option Value},P.Nodup->P[i]? = some x->vs[i]? = some v->kindOf x=some .local ->
  bindL kindOf (P.zip vs) m x=some v
 | [],_,_,_,_,h,_,_=>by simp at h
 | _::_,[],_,_,_,_,h,_=>by simp at h
 | p::P,w::vs,0,m,nd,h1,h2,hk=>by
  simp at h1 h2;subst h1;subst h2
  show bindL kindOf ((p,w)::P.zip vs) m p=_
  unfold bindL
  rw [p_o fun v hv=>(List.nodup_cons.mp nd).1 (List.of_mem_zip hv).1,if_pos hk]
  simp
 | p::P,w::vs,i+1,m,nd,h1,h2,hk=>by
  show bindL kindOf ((p,w)::P.zip vs) m x=_
  unfold bindL
  exact p_n (i:=i) (List.nodup_cons.mp nd).2 (by simpa using h1) (by simpa using h2) hk
theorem p_l{kindOf:Str->Option NameKind}{x:Str}{v:Value}:∀ {P:List Str} {vs:List Value} {i:Nat} {m:Str->Option Value},P.Nodup->P[i]? = some x->vs[i]? = some v->kindOf x≠some .local ->
  bindC kindOf (P.zip vs) m x=some v
 | [],_,_,_,_,h,_,_=>by simp at h
 | _::_,[],_,_,_,_,h,_=>by simp at h
 | p::P,w::vs,0,m,nd,h1,h2,hk=>by
  simp at h1 h2;subst h1;subst h2
  show bindC kindOf ((p,w)::P.zip vs) m p=_
  unfold bindC
  rw [p_m fun v hv=>(List.nodup_cons.mp nd).1 (List.of_mem_zip hv).1,if_neg hk]
  simp
 | p::P,w::vs,i+1,m,nd,h1,h2,hk=>by
  show bindC kindOf ((p,w)::P.zip vs) m x=_
  unfold bindC
  exact p_l (i:=i) (List.nodup_cons.mp nd).2 (by simpa using h1) (by simpa using h2) hk
def start(N:List Str)(vs:List V):St:=vs.map some++List.replicate (N.length-vs.length) none
def cxOf(CX:CXT)(P:Program)(w:World)(K:PySem.W.Frag)(mg:Str->Option Value)(base:Heap)(N:List Str)(qual:Str)(scope:Scope)(f:Addr)(cd:Value)(A:Around)(outer:List Env)(s:Shared)(H:Hp)(E:XK):Cx where
 prog:=P
 w:=w
 K:=K
 mg:=mg
 base:=base
 A:=A.deeper (envOfC qual scope s.heap.objs.size f cd)
 N:=N
 s₀:=s
 H₀:=H
 env:=envOfC qual scope s.heap.objs.size f cd
 outer:=outer
 stack:=envOfC qual scope s.heap.objs.size f cd::outer
 ex:=[]
 calm:=true
 fn:=fun _=>true
 pn:=[]
 xe:=fun e s'=>wpAny (model P w) (A.deeper (envOfC qual scope s.heap.objs.size f cd)) (leaving (envOfC qual scope s.heap.objs.size f cd) e) (fun _ s''=>CX outer H s E e s'') (fun e' s''=>CX outer H s E e' s'') s'
theorem n_u{sc:Scope}{n:Nat}{x:Str}(h:sc.names.lookup x=some .cell):∃ c,(cellsFrom n sc.names []).lookup x=some c:=by
 have q:=PySem.W.cellsFrom_some sc.names n [] (.inl h)
 exact Option.isSome_iff_exists.mp q
theorem j_h{CX:CXT}{P:Program}{w:World}{K:PySem.W.Frag}{mg:Str->Option Value}{base:Heap}{N ps:List Str}{qual:Str}{scope:Scope}{f:Addr}{cd:Value}{A:Around}{outer:List Env}{s s1:Shared}{H:Hp}{E:XK}{us:List Value}{vs:List V}
  (S:FnScope N ps scope) (hd:A.handled=none) (e0:Env0 P w K mg base A outer s H) (hl:vs.length=ps.length) (r:Vals vs us)
  (x:InCallC s s.heap.objs.size (bindL (envOfC qual scope s.heap.objs.size f cd).kindOf (ps.zip us) fun _=>none) (cellsFrom (s.heap.objs.size+1) scope.names []) (bindC (envOfC qual scope s.heap.objs.size f cd).kindOf (ps.zip us) fun _=>none) s1) :
  Inv (cxOf CX P w K mg base N qual scope f cd A outer s H E) [] (start N vs) H s1:=by
 have hpl:ps.length<=N.length:=by have:=congrArg List.length S.pre;rw [List.length_take] at this;lia
 obtain ⟨h1,tk,rfl,hk⟩:=x.done
 have noA:∀ b:Addr,b∉(cxOf CX P w K mg base N qual scope f cd A outer s H E).ex:=fun b z=>absurd (show b∈([]:List Addr) from z) (by simp)
 refine ⟨⟨e0.mod,S.kind,rfl,rfl,Nat.le_refl _,fun y z c h1 h2=>?_,fun y hy=>?_,fun y c _ h=>?_,fun _=>hd,Around.frames_deeper e0.frames,e0.gd,.inr ⟨rfl,rfl⟩,fun b z=>absurd z (noA b),e0.bs,e0.bsz,fun b _ _=>noA b,fun b z=>absurd z (noA b),e0.funs,e0.frf⟩,
  rfl,e0.bare,Un.kept hk,⟨_,x.toInCall.ns,fun i y v h1 h2 h3=>?_⟩,fun y c h=>⟨_,x.cell y c h⟩,e0.hok.fresh (Nat.le_refl _),fun y c h=>?_,fun p hp=>absurd (show p∈([]:List (Addr×Obj)) from hp) (by simp),e0.hok.kept hk,?_⟩
 ·exact name_of_addr x.apart (PySem.mem_of_lookup h1) (PySem.mem_of_lookup h2)
 ·have hy:scope.names.lookup y=some .cell\/scope.names.lookup y=some .free:=hy
  rcases hy with hy | hy
  ·exact n_u hy
  ·exact absurd rfl (S.nofree _ (PySem.mem_of_lookup hy))
 ·exact Nat.le_of_lt (x.above y c (PySem.mem_of_lookup h))
 ·have hi:i<vs.length:=by
   unfold start at h2
   by_cases hi:i<vs.length
   ·exact hi
   ·rw [List.getElem?_append_right (by simpa using hi)] at h2
    rw [List.getElem?_replicate] at h2
    split at h2<;>cases h2
  have ha:vs[i]? = some v:=by
   unfold start at h2
   rw [List.getElem?_append_left (by simpa using hi),List.getElem?_map] at h2
   cases e:vs[i]? with
   | none=>rw [e] at h2;cases h2
   | some a=>rw [e] at h2;cases h2;rfl
  obtain ⟨u,hu,rv⟩:=r.get ha
  have hp:ps[i]? = some y:=by
   rw [<-S.pre,List.getElem?_take_of_lt (by lia)];exact h1
  have ndP:ps.Nodup:=by rw [<-S.pre];exact S.nd.sublist (List.take_sublist _ _)
  refine ⟨u,rv,?_⟩
  rcases S.par y (List.mem_of_getElem? hp) with k | k
  ·exact .inl ⟨k,p_n ndP hp hu k⟩
  ·obtain ⟨c,e⟩:=n_u (n:=s.heap.objs.size+1) k
   refine .inr ⟨.inl k,c,e,?_⟩
   have q:=x.cell y c e
   rw [p_l ndP hp hu (by show scope.names.lookup y≠_;rw [k];decide)] at q
   exact q
 ·exact e0.hok.fresh (Nat.le_of_lt (x.above y c (PySem.mem_of_lookup h)))
 ·unfold start
  show _=N.length
  rw [List.length_append,List.length_map,List.length_replicate]
  lia
theorem fn_of{CX:CXT}{P:Program}{w:World}{K:PySem.W.Frag}{mg:Str->Option Value}{base:Heap}{k:Nat}{f:Addr}{name qual:Str}{params:Arguments}{body:List Stmt}{scope:Scope}{dV kV doc pm cdv ct oc:Value}{an od:Option Addr}
  {osl:Array (Option Value)} {N ps:List Str} {sp:Sp} (lk:K.lookup f=some ⟨oc,od,.func (fnOf name qual params body scope dV kV doc pm an cdv ct),osl⟩) (hcd:codeIn K cdv qual=true) (S:FnScope N ps scope)
  (len:∀ vs H Q E,sp vs H Q E->vs.length=ps.length)
  (hbody:∀ (A:Around) (outer:List Env) (s:Shared) (H:Hp) (vs:List V) (Q:VK) (E:XK),Room k (A.deeper (envOfC qual scope s.heap.objs.size f cdv))->sp vs H Q E ->
   ∃ t,PSs (cxOf CX P w K mg base N qual scope f cdv A outer s H E) body t/\t { nx:=fun _ H'=>Q .non H',rt:=Q } (start N vs) H) :
  FnOk P w K mg base CX (k+1) f (fnOf name qual params body scope dV kV doc pm an cdv ct) ps sp:=by
 refine ⟨len,fun A outer s H args us vs Q E hr e0 hb r hsp=>?_⟩
 have hl:=len _ _ _ _ hsp
 have KX:K.In s.heap:=e0.mod.kin.keeps fun b o e=>(e0.bs b o e).1
 have lim:s.heap.NoLimit:=e0.mod.nolimit.keeps fun b o e=>(e0.bs b o e).1
 have hkind:∀ y∈ps.zip us,scope.names.lookup y.1=some .local\/(scope.names.lookup y.1=some .cell/\((cellsFrom (s.heap.objs.size+1) scope.names []).lookup y.1).isSome=true):=fun ⟨n,v⟩ hy=>by
  rcases S.par n (List.of_mem_zip hy).1 with q | q
  ·exact .inl q
  ·exact .inr ⟨q,PySem.W.cellsFrom_some _ _ _ (.inl q)⟩
 refine codeAny_call_function hr.depth (KX _ _ lk) rfl S.co S.gen rfl (PySem.W.codeRec_of KX hcd) (hb _ _ _ _ ?_)
 refine wpAny_newFunctionEnv_cells S.kind hkind fun env he s1 x=>?_
 subst he
 refine ⟨lim.keeps x.toInCall.keep,codeAny_func ?_⟩
 obtain ⟨t,ht,hq⟩:=hbody A outer s H vs Q E (hr.deeper _) hsp
 have I:Inv (cxOf CX P w K mg base N qual scope f cdv A outer s H E) [] (start N vs) H s1:=j_h S hr.hd e0 hl r x
 refine wpAny_mono (ht [] s1 (start N vs) H _ I hq) (fun fl s' hs=>?_) fun e s' hs=>hs
 have fin:∀ {σ':St} {H':Hp} {v:V} {u:Value},Inv (cxOf CX P w K mg base N qual scope f cdv A outer s H E) [] σ' H' s'->RelV v u->Q v H'->CE outer P w H s Q u s' :=
  fun {σ' H' v u} J rv q=>⟨v,H',J.os,J.bare,J.base,J.hok,rv,q⟩
 cases fl with
 | ret u =>
  obtain ⟨v,σ',H',J,rv,q⟩:=hs
  exact fin J rv q
 | next =>
  obtain ⟨σ',H',J,q⟩:=hs
  exact fin (v:=V.non) (u:=Value.none) J rfl q
 | brk =>
  obtain ⟨_,_,_,q⟩:=hs
  exact False.elim q
 | cont =>
  obtain ⟨_,_,_,q⟩:=hs
  exact False.elim q
open PySem PySem.Spec PyProof.Rows
section
variable {X:Cx} {x:Str} {p pos:Pos} {e:Expr} {es:List Expr} {t:TA} {id T:String} {r:List V->Hp->VK->Prop}
def tCB(r:List V->Hp->VK->Prop)(t:TA):TE:=fun σ H Q=>t σ H fun vs H1=>r vs H1 Q
theorem z_i(hc:CallR X (.builtin id) r)(hg:Gl X x)(hm:X.mg x=none)(hv:bootBuiltins x=some (.builtin id))(ha:PA X (e::es) t)(hn:x ≠ "__name__" := by decide)(hdb:(x == ("__debug__" : Str))=false:=by decide)
  (he:starEach (e::es) X.env=(false,eval e X.env)::starEach es X.env:=by rfl) (hpl:(backTo pos (starEach es X.env)).any (·.1)=false:=by rfl):PE X (.Call (.Name x p) (e::es) [] pos) (tCB r t):=by
 intro pins s σ H Q I h
 refine wpAny_Call_Name_kw (q_h I hg hm hv ?_ hn hdb)
 exact PyProof.Rows.callWith_builtin1 (thn (ha pos pins s σ H _ I h) fun us s1 ⟨vs,H1,I1,r1,q1⟩=>hc pins s1 σ H1 vs us Q I1 r1 q1) he hpl
theorem z_y(hc:CallR X (.type T) r)(hg:Gl X x)(hm:X.mg x=none)(hv:bootBuiltins x=some (.type T))(ha:PA X (e::es) t)(hn:x ≠ "__name__" := by decide)(hdb:(x == ("__debug__" : Str))=false:=by decide)
  (he:starEach (e::es) X.env=(false,eval e X.env)::starEach es X.env:=by rfl) (hpl:(backTo pos (starEach es X.env)).any (·.1)=false:=by rfl):PE X (.Call (.Name x p) (e::es) [] pos) (tCB r t):=by
 intro pins s σ H Q I h
 refine wpAny_Call_Name_kw (q_h I hg hm hv ?_ hn hdb)
 exact PyProof.Rows.callWith_type1 (thn (ha pos pins s σ H _ I h) fun us s1 ⟨vs,H1,I1,r1,q1⟩=>hc pins s1 σ H1 vs us Q I1 r1 q1) he hpl
end
end L2
namespace HT
open PySem PyProof.Rows
section
open PySem.SeqAt
open PySem.AutoSeq1 (wpAny_loadPart')
open PySem.MeetsSeq PySem.MeetsSeq2 PySem.MeetsSeq3
end
section
variable {prog:Program} {w:World} {A:Around} {E:Value->Shared->Prop} {s:Shared}
theorem cat_tup{t b:Addr}{vs ws:List Value}{Q:Value->Shared->Prop}(ht:IsTup s.heap t vs.toArray)(hb:IsTup s.heap b ws.toArray)(hv:vs≠[])
  (h1:ws=[]->Q (.ref t) s) (h2:ws≠[]->Q (.ref s.heap.objs.size) { s with heap:=s.heap.push { cls:=.type "tuple",data:=.seq (vs++ws).toArray } })
  (hsz:vs.length+ws.length<=sizeLine):wpAny (model prog w) A (binaryOp .Add (.ref t) (.ref b)) Q E s:=by
 obtain ⟨⟨cls,dd,data,sl⟩,ho,hc,n,hd⟩:=id ht
 obtain ⟨⟨cls2,dd2,data2,sl2⟩,ho2,hc2,n2,hd2⟩:=id hb
 simp only at hc hd hc2 hd2
 subst hc hd hc2 hd2
 have e:vs.toArray++ws.toArray=(vs++ws).toArray:=by simp
 by_cases hw:ws=[]
 ·exact concat_meets ⟨_,ho,rfl⟩ ⟨_,ho2,rfl⟩ noFill_tuple_add seq_tuple_add PySem.F.slot_tuple_add PySem.F.entry_tuple_add (PySem.F.args_tuple_add_2 _ _)
   (tuple_addW1 t b vs.toArray ws.toArray n n2 dd dd2 sl sl2 (by simpa using hv) (by simp [hw])) ⟨ho,ho2,h1 hw⟩
 ·refine concat_meets ⟨_,ho,rfl⟩ ⟨_,ho2,rfl⟩ noFill_tuple_add seq_tuple_add PySem.F.slot_tuple_add PySem.F.entry_tuple_add (PySem.F.args_tuple_add_2 _ _)
   (tuple_addW2 t b vs.toArray ws.toArray n n2 dd dd2 sl sl2 (by simpa using hv) (by simpa using hw) (by rw [List.size_toArray,List.size_toArray];exact hsz)) ⟨ho,ho2,?_⟩
  rw [e]
  exact h2 hw
def sIx(n d:Nat):Option Int->Nat
 | none=>d
 | some v=>if v<0 then (v+(n:Int)).toNat else min v.toNat n
theorem sIx_none(n d:Nat):sIx n d none=d:=rfl
theorem sIx_nat(n d k:Nat):sIx n d (some (k:Int))=min k n:=by
 show (if (k:Int)<0 then ((k:Int)+(n:Int)).toNat else min (k:Int).toNat n)=min k n
 rw [if_neg (by lia),Int.toNat_natCast]
theorem sIx_le(n d:Nat)(hd:d<=n)(o:Option Int):sIx n d o<=n:=by
 cases o with
 | none=>exact hd
 | some v =>
  show (if v<0 then (v+(n:Int)).toNat else min v.toNat n)<=n
  by_cases hv:v<0
  ·rw [if_pos hv];lia
  ·rw [if_neg hv];exact Nat.min_le_right _ _
theorem k_t(v:Int)(n d:Nat):(if v<0 then max (v+(n:Int)) 0 else min v (n:Int))=((sIx n d (some v):Nat):Int):=by
 show (if v<0 then max (v+(n:Int)) 0 else min v (n:Int))=(((if v<0 then (v+(n:Int)).toNat else min v.toNat n):Nat):Int)
 by_cases hv:v<0
 ·simp only [if_pos hv];lia
 ·simp only [if_neg hv];lia
theorem l_q(lo hi:Option Int)(n:Nat):Builtin.Slice.sliceAdjust lo hi 1 (n:Int)=(((sIx n 0 lo:Nat):Int),((sIx n n hi:Nat):Int)):=by
 have h1:¬((1:Int)<0):=by lia
 unfold Builtin.Slice.sliceAdjust
 simp only [h1,if_false]
 refine Prod.ext ?_ ?_
 ·cases lo with
  | none=>rfl
  | some v=>exact k_t v n 0
 ·cases hi with
  | none=>rfl
  | some v=>exact k_t v n n
theorem k_f(i j:Nat):Builtin.Slice.slicePlaces (i:Int) (j:Int) 1=j-i:=by
 unfold Builtin.Slice.slicePlaces
 have h1:(1:Int) > 0:=by lia
 simp only [h1,if_true,Int.ediv_one]
 split<;>lia
theorem slicePart_{v:Value}{o:Option Int}{Q:Option Int->Shared->Prop}(p:IsPart v o)(h:Q o s):wpAny (model prog w) A (Builtin.Slice.slicePartIndex v) Q E s:=by
 cases p with
 | none=>exact slicePart_none h
 | int i t=>exact slicePart_int h
theorem u_i{sl:Addr}{vl vu:Value}{lo hi:Option Int}{n:Nat}{Q:Int×Int×Nat->Shared->Prop}(hs:s.heap.IsSliceOf sl vl vu .none)(pl:IsPart vl lo)(pu:IsPart vu hi)
  (h:Q (((sIx n 0 lo:Nat):Int),1,sIx n n hi-sIx n 0 lo) s):wpAny (model prog w) A (Builtin.Slice.sliceApplied (.ref sl) (pure (n:Int))) Q E s:=by
 obtain ⟨os,hos,hcs,hds⟩:=id hs
 unfold Builtin.Slice.sliceApplied Builtin.Slice.sliceFields
 refine wpAny_bind (wpAny_bind (wpAny_field hos hds (x:=vl) rfl (wpAny_bind (wpAny_field hos hds (x:=vu) rfl (wpAny_bind (wpAny_field hos hds (x:=.none) rfl (wpAny_pure ?_)))))))
 refine wpAny_bind (slicePart_none ?_)
 show wpAny _ _ (if ((1:Int) == 0)=true then _ else _) _ _ s
 rw [if_neg (by decide)]
 refine wpAny_bind (slicePart_ pl (wpAny_bind (slicePart_ pu (wpAny_bind (wpAny_pure ?_)))))
 show wpAny _ _ (match Builtin.Slice.sliceAdjust lo hi 1 (n:Int) with | (lo,hi)=>pure (lo,(1:Int),Builtin.Slice.slicePlaces lo hi 1)) _ _ s
 rw [l_q lo hi n]
 show wpAny _ _ (pure (((sIx n 0 lo:Nat):Int),(1:Int),Builtin.Slice.slicePlaces ((sIx n 0 lo:Nat):Int) ((sIx n n hi:Nat):Int) 1)) _ _ s
 rw [k_f]
 exact wpAny_pure h
theorem pick_gen(xs:Array Value)(i k:Nat):((List.range k).filterMap fun (m:Nat)=>xs[((i:Int)+(m:Int)*1).toNat]?).toArray=((xs.toList.drop i).take k).toArray:=by
 have e:(fun (m:Nat)=>xs[((i:Int)+(m:Int)*1).toNat]?)=fun m=>xs[i+m]? := by
  funext m
  have:((i:Int)+(m:Int)*1).toNat=i+m:=by lia
  rw [this]
 rw [e]
 have:=pick_run xs i k
 rw [List.filterMap_map] at this
 have e2:((fun x=>xs[x]?) ∘ fun x=>i+x)=fun m=>xs[i+m]? := rfl
 rw [e2] at this
 rw [this]
theorem getItem_tuple_cut{t sl:Addr}{items:Array Value}{vl vu:Value}{lo hi:Option Int}{Q:Value->Shared->Prop}(ht:IsTup s.heap t items)(hs:s.heap.IsSliceOf sl vl vu .none)(pl:IsPart vl lo)(pu:IsPart vu hi)
  (hw:¬(sIx items.size 0 lo=0/\sIx items.size items.size hi=items.size))
  (h:Q (.ref s.heap.objs.size) { s with heap:=s.heap.push { cls:=.type "tuple",data:=.seq ((items.toList.drop (sIx items.size 0 lo)).take (sIx items.size items.size hi-sIx items.size 0 lo)).toArray } })
  (hsz:items.size<=sizeLine):wpAny (model prog w) A (getItem (.ref t) (.ref sl)) Q E s:=by
 have htake:sizeOk (.seq ((items.toList.drop (sIx items.size 0 lo)).take (sIx items.size items.size hi-sIx items.size 0 lo)).toArray):=by
  show ((items.toList.drop (sIx items.size 0 lo)).take (sIx items.size items.size hi-sIx items.size 0 lo)).toArray.size<=sizeLine
  rw [List.size_toArray,List.length_take,List.length_drop,Array.length_toList]
  lia
 have hj:sIx items.size items.size hi<=items.size:=sIx_le _ _ (Nat.le_refl _) hi
 obtain ⟨os,hos,hcs,hds⟩:=id hs
 have hTs:s.TypeIs (.ref sl) "slice" := ⟨os,hos,hcs⟩
 unfold getItem
 try with_reducible refine wpAny_holding ?_
 first | refine wpAny_bind (wpAny_pure ?_) | skip
 refine wpAny_bind (wpAny_sequenceKey ht.typeIs (by decide) ?_)
 refine wpAny_bind (wpAny_callSpecial?_slot (name:=Str.ofString "__getitem__") ht.typeIs PyProof.Rows.slot_tuple_getitem
  (wpAny_call_entry PyProof.Rows.slot_tuple_getitem ht.typeIs entry_tuple_getitem ?_ (args_tuple_getitem _ _)))
 show wpAny _ _ (Builtin.Tuple.tupleItemsOf (.ref t) >>= _) _ _ s
 refine wpAny_bind (tupleItemsOf_ ht ?_)
 refine wpAny_bind (wpAny_typeOf hTs ?_)
 rw [if_pos (by decide)]
 refine wpAny_bind (u_i hs pl pu ?_)
 have hno:¬((((sIx items.size 0 lo:Nat):Int) == 0&&(1:Int) == 1&&(sIx items.size items.size hi-sIx items.size 0 lo) == items.size)=true):=by
  intro q
  rw [Bool.and_eq_true,Bool.and_eq_true] at q
  have q1:((sIx items.size 0 lo:Nat):Int)=0:=eq_of_beq q.1.1
  have q2:sIx items.size items.size hi-sIx items.size 0 lo=items.size:=eq_of_beq q.2
  exact hw ⟨by lia,by lia⟩
 show wpAny _ _ (if (((sIx items.size 0 lo:Nat):Int) == 0&&(1:Int) == 1&&(sIx items.size items.size hi-sIx items.size 0 lo) == items.size)=true then _ else _) _ _ s
 rw [if_neg hno,pick_gen]
 first
  | exact wpAny_bind (m:=Builtin.Tuple.tupleExact _) (wpAny_newObj_type (wpAny_pure ⟨_,rfl,wpAny_pure h⟩) htake)
  | exact wpAny_bind (m:=Builtin.Tuple.tupleExact _) (wpAny_newObj_type (wpAny_bind (wpAny_pure (wpAny_pure ⟨_,rfl,wpAny_pure h⟩))) htake)
  | exact wpAny_bind (wpAny_bind (m:=Builtin.Tuple.tupleExact _) (wpAny_newObj_type (wpAny_pure (wpAny_pure ⟨_,rfl,wpAny_pure h⟩)) htake))
  | exact wpAny_bind (wpAny_bind (m:=Builtin.Tuple.tupleExact _) (wpAny_newObj_type (wpAny_pure ⟨_,rfl,wpAny_pure h⟩) htake))
end
end HT
namespace L2
open PySem PySem.Spec PyProof.Rows
abbrev TO:=St->Hp->(Option Int->Hp->Prop)->Prop
def PO(X:Cx)(e:Option Expr)(t:TO):Prop :=
 ∀ (pins:List (Addr×Obj)) (s:Shared) (σ:St) (H:Hp) (Q:Option Int->Hp->Prop),Inv X pins σ H s->t σ H Q ->
  wpAny (model X.prog X.w) X.A (evalPart e X.env) (fun u s'=>∃ o H',Inv X pins σ H' s'/\IsPart u o/\Q o H') X.xe s
def tNoPart:TO:=fun _ H Q=>Q none H
def tPart(t:TE):TO:=fun σ H Q=>t σ H fun x H1=>∃ i,x = .int i/\Q (some i) H1
section
variable {X:Cx} {e:Expr} {te:TE} {lo hi:Option Expr} {tl th:TO} {pos p2:Pos}
theorem w_d:PO X none tNoPart:=by
 intro pins s σ H Q I h
 rw [evalPart_none]
 exact wpAny_pure ⟨none,H,I,.none,h⟩
theorem y_p(h:PE X e te):PO X (some e) (tPart te):=by
 intro pins s σ H Q I hw
 rw [evalPart_some]
 refine thn (h pins s σ H _ I hw) fun u s1 ⟨x,H1,I1,r1,q1⟩=>?_
 obtain ⟨i,rfl,q⟩:=q1
 obtain ⟨t,rfl⟩:=r1
 exact ⟨some i,H1,I1,.int i t,q⟩
def SlR(X:Cx)(r:V->Option Int->Option Int->Hp->VK->Prop):Prop :=
 ∀ (pins:List (Addr×Obj)) (s:Shared) (σ:St) (H:Hp) (x:V) (v vl vu:Value) (lo hi:Option Int) (sl:Addr) (Q:VK),Inv X pins σ H s->RelV x v->s.heap.IsSliceOf sl vl vu .none->IsPart vl lo->IsPart vu hi->r x lo hi H Q ->
  ∃ T id,typeLookup (.type T) "__getitem__" = pure (some (.builtin id))/\s.TypeIs v T/\wpAny (model X.prog X.w) X.A (getItem v (.ref sl)) (EP X pins σ Q) X.xe s
def tSl(r:V->Option Int->Option Int->Hp->VK->Prop)(te:TE)(tl th:TO):TE:=fun σ H Q=>te σ H fun x H1=>tl σ H1 fun l H2=>th σ H2 fun u H3=>r x l u H3 Q
theorem y_s{r:V->Option Int->Option Int->Hp->VK->Prop}(hr:SlR X r)(he:PE X e te)(hl:PO X lo tl)(hu:PO X hi th):PE X (.Subscript e (.Slice lo hi none p2) pos) (tSl r te tl th):=by
 intro pins s σ H Q I h
 refine Subscript_ (thn (he pins s σ H _ I h) fun v s1 ⟨x,H1,I1,r1,q1⟩=>?_)
 refine wpAny_Slice (thn (hl pins s1 σ H1 _ I1 q1) fun vl s2 ⟨l,H2,I2,pl,q2⟩=>thn (hu pins s2 σ H2 _ I2 q2) fun vu s3 ⟨u,H3,I3,pu,q3⟩=>?_)
 rw [evalPart_none]
 refine wpAny_pure ?_
 have I4:Inv X pins σ H3 { s3 with heap:=s3.heap.push { cls:=.type "slice",data:=.fields #[vl,vu,.none] } }:=I3.kept (t':=s3.toks) fun b ob q=>Heap.get?_push_of_some _ q
 obtain ⟨T,id,hT,ht,hg⟩:=hr pins { s3 with heap:=s3.heap.push { cls:=.type "slice",data:=.fields #[vl,vu,.none] } } σ H3 x v vl vu l u s3.heap.objs.size Q I4 r1 (Heap.IsSliceOf.new ..) pl pu q3
 show wpAny (model X.prog X.w) X.A (subscriptTail e (.Slice lo hi none p2) v (.ref s3.heap.objs.size)) (EP X pins σ Q) X.xe { s3 with heap:=s3.heap.push { cls:=.type "slice",data:=.fields #[vl,vu,.none] } }
 exact tail_any (ops:=[.ref s3.heap.objs.size,v]) ht hT hg (by with_unfolding_all rfl)
def cutV(xs:List V)(lo hi:Option Int):List V:=(xs.drop (HT.sIx xs.length 0 lo)).take (HT.sIx xs.length xs.length hi-HT.sIx xs.length 0 lo)
theorem s_x(xs:List V)(lo hi:Option Int):(cutV xs lo hi).length<=xs.length:=by
 unfold cutV
 rw [List.length_take,List.length_drop]
 lia
def rSlT(K:PySem.W.Frag):V->Option Int->Option Int->Hp->VK->Prop:=fun x lo hi H Q=>∃ a xs,x = .ref a/\SqT K H a xs /\
 ¬(HT.sIx xs.length 0 lo=0/\HT.sIx xs.length xs.length hi=xs.length)/\∀ p,H p=none->Q (.ref p) (upd H p (.tup (cutV xs lo hi)))
theorem sl_tup:SlR X (rSlT X.K):=by
 intro pins s σ H x v vl vu lo hi sl Q I rx hs pl pu h
 obtain ⟨a,xs,rfl,hx,hw,q⟩:=h
 cases rx
 obtain ⟨its,r,ht,hz⟩:=I.tuple hx
 have hlen:its.toArray.size=xs.length:=by rw [List.size_toArray];exact r.length.symm
 refine ⟨"tuple",_,PyProof.Rows.slot_tuple_getitem.lookup,ht.typeIs,?_⟩
 refine HT.getItem_tuple_cut ht hs pl pu (by rw [hlen];exact hw) ?_ (by rw [hlen];exact hz)
 rw [hlen]
 refine ⟨.ref s.heap.objs.size,_,I.laid (t':=s.toks) (o:=.tup (cutV xs lo hi)) (fun b ob q=>Heap.get?_push_of_some _ q) (Nat.le_refl _) ?_,rfl,q _ (I.hok.fresh (Nat.le_refl _))⟩
 exact ⟨Nat.le_trans (s_x xs lo hi) hz,_,(r.drop (HT.sIx xs.length 0 lo)).take (HT.sIx xs.length xs.length hi-HT.sIx xs.length 0 lo),IsTup.new _ _⟩
def rCatT(K:PySem.W.Frag):R2:=fun x y H Q=>∃ a b xs ys,x = .ref a/\y = .ref b/\SqT K H a xs/\SqT K H b ys/\xs≠[]/\xs.length+ys.length<=sizeLine /\
 (ys=[]->Q (.ref a) H)/\(ys≠[]->∀ p,H p=none->Q (.ref p) (upd H p (.tup (xs++ys))))
theorem Vals.nil_iff{xs:List V}{us:List Value}(r:Vals xs us):us=[]↔xs=[]:=by
 cases r with
 | nil=>simp
 | cons _ _=>simp
theorem op_catT:OpR X (binaryOp .Add) (rCatT X.K):=by
 intro pins s σ H x y v u Q I rx ry h
 obtain ⟨a,b,xs,ys,rfl,rfl,ha,hb,hx,hz,q1,q2⟩:=h
 cases rx
 cases ry
 obtain ⟨its,r1,p1,_⟩:=I.tuple ha
 obtain ⟨its2,r2,p2,_⟩:=I.tuple hb
 refine HT.cat_tup p1 p2 (fun z=>hx (r1.nil_iff.mp z)) (fun z=>⟨.ref a,H,I,rfl,q1 (r2.nil_iff.mp z)⟩) (fun z=>?_) (by rw [<-r1.length,<-r2.length];exact hz)
 refine ⟨.ref s.heap.objs.size,_,I.laid (t':=s.toks) (o:=.tup (xs++ys)) (fun b ob q=>Heap.get?_push_of_some _ q) (Nat.le_refl _) ?_,rfl,q2 (fun w=>z (r2.nil_iff.mpr w)) _ (I.hok.fresh (Nat.le_refl _))⟩
 exact ⟨by rw [List.length_append];exact hz,_,r1.append r2,IsTup.new _ _⟩
end
open PySem PySem.Spec PyProof.Rows
def ixN(n:Nat)(i:Int):Option Nat:=if 0<=i then (if i<n then some i.toNat else none) else if -(n:Int)<=i then some (i+n).toNat else none
def atI{α:Type}(xs:List α)(i:Int):Option α:=(ixN xs.length i).bind fun j=>xs[j]?
theorem j_j{n:Nat}{i:Int}{j:Nat}(h:ixN n i=some j):seqIndex? i n=some j/\j<n /\ -(n:Int)<=i/\i<n:=by
 unfold ixN at h
 by_cases h0:0<=i
 ·rw [if_pos h0] at h
  by_cases h1:i<n
  ·rw [if_pos h1] at h
   have e:i.toNat=j:=Option.some.inj h
   exact ⟨by rw [seqIndex_of h0 h1,e],by lia,by lia,h1⟩
  ·rw [if_neg h1] at h;cases h
 ·rw [if_neg h0] at h
  by_cases h1 : -(n:Int)<=i
  ·rw [if_pos h1] at h
   have e:(i+n).toNat=j:=Option.some.inj h
   exact ⟨by rw [seqIndex_neg (by lia) h1,e],by lia,h1,by lia⟩
  ·rw [if_neg h1] at h;cases h
theorem o_v{α:Type}{xs:List α}{i:Int}{v:α}(h:atI xs i=some v):∃ j,seqIndex? i xs.length=some j/\xs[j]? = some v/\j<xs.length /\ -(xs.length:Int)<=i/\i<xs.length:=by
 unfold atI at h
 cases e:ixN xs.length i with
 | none=>rw [e] at h;cases h
 | some j =>
  rw [e] at h
  obtain ⟨h1,h2,h3,h4⟩:=j_j e
  exact ⟨j,h1,h,h2,h3,h4⟩
theorem z_t{α:Type}{xs:List α}{j:Nat}{v:α}(h:xs[j]? = some v):atI xs (j:Int)=some v:=by
 have hj:j<xs.length:=(List.getElem?_eq_some_iff.mp h).1
 have e:ixN xs.length (j:Int)=some j:=by
  unfold ixN
  rw [if_pos (by lia),if_pos (by lia)];simp
 unfold atI;rw [e];exact h
def PlainIx(b:Expr):Prop:=∀ o i,subscripted b false o i=operate [o,i] (getItem o i)
def IxR(X:Cx)(r:R2):Prop :=
 ∀ (value slice:Expr) (pins:List (Addr×Obj)) (s:Shared) (σ:St) (H:Hp) (x y:V) (v u:Value) (Q:VK),Inv X pins σ H s->RelV x v->RelV y u->r x y H Q ->
  subscripted slice false v u=operate [v,u] (getItem v u)->wpAny (model X.prog X.w) X.A (subscriptTail value slice v u) (EP X pins σ Q) X.xe s
def MtR(X:Cx)(id:String)(r:V->List V->Hp->VK->Prop):Prop :=
 ∀ (pins:List (Addr×Obj)) (s:Shared) (σ:St) (H:Hp) (x:V) (xs:List V) (v:Value) (us:List Value) (Q:VK),Inv X pins σ H s->RelV x v->Vals xs us->r x xs H Q ->
  wpAny (model X.prog X.w) X.A (call (.builtin id) (v::us)) (EP X pins σ Q) X.xe s
section
variable {X:Cx} {a b:Expr} {ta tb:TE} {pos:Pos}
theorem z_j{r:R2}(hr:IxR X r)(ha:PE X a ta)(hb:PE X b tb)(hs:PlainIx b):PE X (.Subscript a b pos) (tOp r ta tb):=by
 intro pins s σ H Q I h
 exact Subscript_ (binT ha hb I h fun v u s2 x y H2 I2 rx ry q=>hr a b pins s2 σ H2 x y v u Q I2 rx ry q (hs _ _))
def rIxL(K:PySem.W.Frag):R2:=fun x y H Q=>∃ p xs i v,x = .ref p/\y = .int i/\SqL K H p xs/\atI xs i=some v/\Q v H
def rIxT(K:PySem.W.Frag):R2:=fun x y H Q=>∃ p xs i v,x = .ref p/\y = .int i/\SqT K H p xs/\atI xs i=some v/\Q v H
def rIxS:R2:=fun x y H Q=>∃ z i c,x = .str z/\y = .int i/\z.length<=sizeLine/\atI z.cps.toList i=some c/\Q (.str ⟨#[c]⟩) H
theorem z_v:IxR X (rIxL X.K):=by
 intro value slice pins s σ H x y v u Q I rx ry h hs
 obtain ⟨p,xs,i,z,rfl,rfl,hq,he,q⟩:=h
 cases rx
 obtain ⟨t,rfl⟩:=ry
 obtain ⟨its,r,pl,hz⟩:=I.list hq
 obtain ⟨j,h1,h2,h3,h4,h5⟩:=o_v he
 obtain ⟨w,ew,rw'⟩:=r.get h2
 have hl:=r.length
 have hn:=line63
 have fin:EP X pins σ Q w s:=⟨z,H,I,rw',q⟩
 by_cases h0:0<=i
 ·have hj:i.toNat=j:=by
   rw [seqIndex_of h0 h5] at h1
   exact Option.some.inj h1
  exact item_listR pl.isList h0 (by lia) (by rw [hj];simpa using ew) fin hs
 ·have hj:(i+(its.toArray.size:Int)).toNat=j:=by
   rw [seqIndex_neg (by lia) h4] at h1
   rw [List.size_toArray,<-hl]
   exact Option.some.inj h1
  exact subscriptTail_builtinR (x:=w) pl.isList.typeIs slot_list_getitem.lookup
   (wpAny_getItem_list_neg (Q:=fun r s'=>r=w/\EP X pins σ Q r s') pl.isList (by lia) (by rw [List.size_toArray]<;>lia) (by lia) (by rw [hj];simpa using ew) ⟨rfl,fin⟩) hs
theorem z_n:IxR X (rIxT X.K):=by
 intro value slice pins s σ H x y v u Q I rx ry h hs
 obtain ⟨p,xs,i,z,rfl,rfl,hq,he,q⟩:=h
 cases rx
 obtain ⟨t,rfl⟩:=ry
 obtain ⟨its,r,pl,hz⟩:=I.tuple hq
 obtain ⟨j,h1,h2,h3,h4,h5⟩:=o_v he
 obtain ⟨w,ew,rw'⟩:=r.get h2
 have hl:=r.length
 have hn:=line63
 have fin:EP X pins σ Q w s:=⟨z,H,I,rw',q⟩
 exact subscriptTail_builtinR (x:=w) pl.typeIs slot_tuple_getitem.lookup
  (getItem_tuple (j:=j) (Q:=fun r s'=>r=w/\EP X pins σ Q r s') pl (by lia) (by lia) (by rw [List.size_toArray,<-hl];exact h1) (by simpa using ew) ⟨rfl,fin⟩) hs
theorem ix_str:IxR X rIxS:=by
 intro value slice pins s σ H x y v u Q I rx ry h hs
 obtain ⟨z,i,c,rfl,rfl,hz,he,q⟩:=h
 obtain ⟨t,rfl⟩:=rx
 obtain ⟨t',rfl⟩:=ry
 obtain ⟨j,h1,h2,h3,h4,h5⟩:=o_v he
 have hl:z.cps.toList.length=z.length:=by simp [Str.length]
 rw [hl] at h1 h4 h5
 have hn:=line63
 exact tail_any (typeIs_str s z t) slot_str_getitem.lookup (getItem_str (c:=c) (by
  have e1:decide (i < -(2^63:Int))=false:=decide_eq_false (by lia)
  have e2:decide (i≥2^63)=false:=decide_eq_false (by lia)
  rw [e1,e2,Bool.or_false]) (by rw [h1];simpa using h2) ⟨.str ⟨#[c]⟩,H,I.tok _,⟨_,rfl⟩,q⟩) hs
theorem l_u(its:List Value)(n j:Nat)(u:Value):Obj.mapSeq (·.setIfInBounds j u) { cls:=.type "list",data:=.seq its.toArray n }={ cls:=.type "list",data:=.seq (its.set j u).toArray n }:=by
 simp [Obj.mapSeq]
theorem Inv.lst{pins:List (Addr×Obj)}{σ:St}{H:Hp}{s:Shared}{p:Addr}{xs:List V}(I:Inv X pins σ H s)(h:H p=some (.lst xs)) :
  ∃ (its:List Value) (n:Nat),Vals xs its/\s.heap.get? p=some { cls:=.type "list",data:=.seq its.toArray n }/\xs.length<=sizeLine:=by
 obtain ⟨z,its,n,r,e⟩:=I.hok p _ h
 exact ⟨its,n,r,e,z⟩
theorem Inv.lstUpd{pins:List (Addr×Obj)}{σ:St}{H:Hp}{s:Shared}{p:Addr}{xs ys:List V}{its its':List Value}{n n':Nat}{f:Obj->Obj}(I:Inv X pins σ H s)(h:H p=some (.lst xs))
  (ho:s.heap.get? p=some { cls:=.type "list",data:=.seq its.toArray n }) (hf:f { cls:=.type "list",data:=.seq its.toArray n }={ cls:=.type "list",data:=.seq its'.toArray n' }) (r:Vals ys its') (hz:ys.length<=sizeLine) (t:Nat) :
  Inv X pins σ (upd H p (.lst ys)) { s with heap:=s.heap.update p f,toks:=t }:=by
 have e:(s.heap.update p f).get? p=some { cls:=.type "list",data:=.seq its'.toArray n' }:=by
  rw [Heap.get?_update_self f ho (by rw [hf]<;>rfl),hf]
 refine I.write (x:=p) (e:=p) (by rw [h];trivial) (.inl rfl) (fun b u hb q=>(Heap.get?_update_other _ _ (Ne.symm hb)).trans q) ⟨_,e⟩ ?_
 exact ⟨hz,its',n',r,e⟩
def rSetL:V->V->V->Hp->(Hp->Prop)->Prop:=fun o i v H Q=>∃ p xs k j,o = .ref p/\i = .int k/\H p=some (.lst xs)/\ixN xs.length k=some j/\Q (upd H p (.lst (xs.set j v)))
theorem m_v:PSet X rSetL:=by
 intro pins s σ H o i v ov iv u Q I ro ri rv h
 obtain ⟨p,xs,k,j,rfl,rfl,hp,hj,q⟩:=h
 cases ro
 obtain ⟨t,rfl⟩:=ri
 obtain ⟨its,n,r,ho,hz⟩:=I.lst hp
 obtain ⟨h1,h2,h3,h4⟩:=j_j hj
 have hl:=r.length
 have hn:=line63
 have I':Inv X pins σ (upd H p (.lst (xs.set j v))) { s with heap:=s.heap.update p (Obj.mapSeq (·.setIfInBounds j u)) } :=
  I.lstUpd hp ho (l_u its n j u) (r.set rv j) (by rw [List.length_set];exact hz) s.toks
 by_cases h0:0<=k
 ·have hk:k.toNat=j:=by
   rw [seqIndex_of h0 h4] at h1
   exact Option.some.inj h1
  exact PySem.W.ki_setAt ho h0 (by lia) (by rw [List.size_toArray,<-hl];exact h4) (by rw [hk];exact ⟨_,I',q⟩)
 ·have hk:(k+(its.toArray.size:Int)).toNat=j:=by
   rw [seqIndex_neg (by lia) h3] at h1
   rw [List.size_toArray,<-hl]
   exact Option.some.inj h1
  exact PySem.W.ki_setBack ho (by lia) (by rw [List.size_toArray,<-hl];exact h3) (by lia) (by rw [hk];exact ⟨_,I',q⟩)
theorem o_m(lo hi:Option Int)(n:Nat):(sliceBounds lo hi none n).1=((HT.sIx n 0 lo:Nat):Int)/\(sliceBounds lo hi none n).2.1=((HT.sIx n n hi:Nat):Int)/\(sliceBounds lo hi none n).2.2=1:=by
 refine ⟨?_,?_,rfl⟩
 ·cases lo with
  | none=>simp [sliceBounds,HT.sIx]
  | some i =>
   simp only [sliceBounds,HT.sIx,Option.getD_none,show (1:Int) > 0 by decide,if_true]
   by_cases h:i<0
   ·simp only [h,if_true]<;>lia
   ·simp only [h,if_false]<;>lia
 ·cases hi with
  | none=>simp [sliceBounds,HT.sIx]
  | some i =>
   simp only [sliceBounds,HT.sIx,Option.getD_none,show (1:Int) > 0 by decide,if_true]
   by_cases h:i<0
   ·simp only [h,if_true]<;>lia
   ·simp only [h,if_false]<;>lia
theorem p_f(its:List Value)(lo hi:Option Int):slicePick its.toArray lo hi none=((its.drop (HT.sIx its.length 0 lo)).take (HT.sIx its.length its.length hi-HT.sIx its.length 0 lo)).toArray:=by
 obtain ⟨h1,h2,h3⟩:=o_m lo hi its.toArray.size
 unfold slicePick
 rw [h1,h2,h3]
 simp only [sliceRange_one,pick_run,List.size_toArray]<;>rfl
def rSlL(K:PySem.W.Frag):V->Option Int->Option Int->Hp->VK->Prop:=fun x lo hi H Q=>∃ a xs,x = .ref a/\SqL K H a xs/\∀ p,H p=none->Q (.ref p) (upd H p (.lst (cutV xs lo hi)))
theorem u_v:SlR X (rSlL X.K):=by
 intro pins s σ H x v vl vu lo hi sl Q I rx hs pl pu h
 obtain ⟨a,xs,rfl,hx,q⟩:=h
 cases rx
 obtain ⟨its,r,ht,hz⟩:=I.list hx
 have hlen:=r.length
 refine ⟨"list",_,slot_list_getitem.lookup,ht.isList.typeIs,?_⟩
 refine wpAny_getItem_list_slice ht.isList hs pl pu .none (by simp) ?_ (by rw [List.size_toArray]<;>lia)
 rw [p_f,<-hlen]
 refine ⟨.ref s.heap.objs.size,_,I.laid (t':=s.toks) (o:=.lst (cutV xs lo hi)) (fun b ob q=>Heap.get?_push_of_some _ q) (Nat.le_refl _) ?_,rfl,q _ (I.hok.fresh (Nat.le_refl _))⟩
 exact ⟨Nat.le_trans (s_x xs lo hi) hz,_,0,(r.drop (HT.sIx xs.length 0 lo)).take (HT.sIx xs.length xs.length hi-HT.sIx xs.length 0 lo),Heap.get?_push_size _ rfl⟩
def flatV:V->Bool
 | .non=>true
 | .bl _=>true
 | .int _=>true
 | .str _=>true
 | _=>false
def eqV:V->V->Bool
 | .non,.non=>true
 | .bl a,.bl b=>a == b
 | .bl a,.int b=>(if a then 1 else 0) == b
 | .int a,.bl b=>a == (if b then 1 else 0)
 | .int a,.int b=>a == b
 | .str a,.str b=>a == b
 | _,_=>false
theorem eqAt_V{A:Around}{s:Shared}{y x:V}{u v:Value}(ry:RelV y u)(rx:RelV x v)(fy:flatV y=true)(fx:flatV x=true):SeqAt.EqAt A s u v (eqV y x):=by
 cases y with
 | non =>
  cases ry
  cases x with
  | non=>cases rx;exact SeqAt.EqAt.same _
  | bl b=>cases rx;exact SeqAt.EqAt.none_bool b
  | int b=>obtain ⟨t,rfl⟩:=rx;exact SeqAt.EqAt.none_int b t
  | str b=>obtain ⟨t,rfl⟩:=rx;exact SeqAt.EqAt.none_str b t
  | _=>exact absurd (show false=true from fx) Bool.false_ne_true
 | bl a =>
  cases ry
  cases x with
  | non=>cases rx;exact SeqAt.EqAt.bool_none a
  | bl b=>cases rx;exact SeqAt.EqAt.bool_bool a b
  | int b=>obtain ⟨t,rfl⟩:=rx;exact SeqAt.EqAt.bool_int a b t
  | str b=>obtain ⟨t,rfl⟩:=rx;exact SeqAt.EqAt.bool_str a b t
  | _=>exact absurd (show false=true from fx) Bool.false_ne_true
 | int a =>
  obtain ⟨t',rfl⟩:=ry
  cases x with
  | non=>cases rx;exact SeqAt.EqAt.int_none a t'
  | bl b=>cases rx;exact SeqAt.EqAt.int_bool a t' b
  | int b=>obtain ⟨t,rfl⟩:=rx;exact SeqAt.EqAt.int_int a t' b t
  | str b=>obtain ⟨t,rfl⟩:=rx;exact SeqAt.EqAt.int_str a t' b t
  | _=>exact absurd (show false=true from fx) Bool.false_ne_true
 | str a =>
  obtain ⟨t',rfl⟩:=ry
  cases x with
  | non=>cases rx;exact SeqAt.EqAt.str_none a t'
  | bl b=>cases rx;exact SeqAt.EqAt.str_bool a t' b
  | int b=>obtain ⟨t,rfl⟩:=rx;exact SeqAt.EqAt.str_int a t' b t
  | str b=>obtain ⟨t,rfl⟩:=rx;exact SeqAt.EqAt.str_str a t' b t
  | _=>exact absurd (show false=true from fx) Bool.false_ne_true
 | _=>exact absurd (show false=true from fy) Bool.false_ne_true
def eqU(x:V)(u:Value):Bool:=match u with
 | .none=>eqV .non x
 | .bool b=>eqV (.bl b) x
 | .int i _=>eqV (.int i) x
 | .str z _=>eqV (.str z) x
 | _=>false
theorem j_b{x y:V}{u:Value}(r:RelV y u)(f:flatV y=true):eqU x u=eqV y x:=by
 cases y with
 | non=>cases r;rfl
 | bl b=>cases r;rfl
 | int i=>obtain ⟨t,rfl⟩:=r;rfl
 | str z=>obtain ⟨t,rfl⟩:=r;rfl
 | _=>exact absurd (show false=true from f) Bool.false_ne_true
theorem s_w{x:V}:∀ {xs:List V} {us:List Value},Vals xs us->xs.all flatV=true->us.any (eqU x)=xs.any fun y=>eqV y x
 | _,_,.nil,_=>rfl
 | y::xs,u::us,.cons r t,f=>by
  rw [List.all_cons,Bool.and_eq_true] at f
  rw [List.any_cons,List.any_cons,j_b r f.1,s_w t f.2]
theorem u_y{A:Around}{s:Shared}{x:V}{v:Value}(rx:RelV x v)(fx:flatV x=true):∀ {xs:List V} {us:List Value},Vals xs us->xs.all flatV=true->∀ u∈us,SeqAt.EqAt A s u v (eqU x u)
 | _,_,.nil,_=>fun u hu=>by cases hu
 | y::xs,u::us,.cons r t,f=>fun u' hu=>by
  rw [List.all_cons,Bool.and_eq_true] at f
  rcases List.mem_cons.mp hu with rfl | hu
  ·rw [j_b r f.1];exact eqAt_V r rx f.1 fx
  ·exact u_y rx fx t f.2 u' hu
def inV(x:V)(xs:List V):Bool:=xs.any fun y=>eqV y x
def rIn(K:PySem.W.Frag)(neg:Bool):R2:=fun x y H Q=>∃ p xs,y = .ref p/\(SqL K H p xs\/SqT K H p xs)/\flatV x=true/\xs.all flatV=true/\Q (.bl (if neg then !inV x xs else inV x xs)) H
theorem v_t:OpR X (compareOp .In) (rIn X.K false):=by
 intro pins s σ H x y v u Q I rx ry h
 obtain ⟨p,xs,rfl,hq,fx,fs,q⟩:=h
 cases ry
 rcases hq with hq | hq
 ·obtain ⟨its,r,pl,hz⟩:=I.list hq
  refine SeqAt.in_listAt (eqU x) pl.isList (fun w hw=>u_y rx fx r fs w (by simpa using hw)) ⟨.bl _,H,I,rfl,?_⟩
  rw [show its.toArray.any (eqU x)=its.any (eqU x) by simp,s_w r fs]
  exact q
 ·obtain ⟨its,r,pl,hz⟩:=I.tuple hq
  refine SeqAt.in_tupleAt (eqU x) pl (fun w hw=>u_y rx fx r fs w (by simpa using hw)) ⟨.bl _,H,I,rfl,?_⟩
  rw [show its.toArray.any (eqU x)=its.any (eqU x) by simp,s_w r fs]
  exact q
theorem s_m:OpR X (compareOp .NotIn) (rIn X.K true):=by
 intro pins s σ H x y v u Q I rx ry h
 obtain ⟨p,xs,rfl,hq,fx,fs,q⟩:=h
 cases ry
 rcases hq with hq | hq
 ·obtain ⟨its,r,pl,hz⟩:=I.list hq
  refine SeqAt.notIn_listAt (eqU x) pl.isList (fun w hw=>u_y rx fx r fs w (by simpa using hw)) ⟨.bl _,H,I,rfl,?_⟩
  rw [show its.toArray.any (eqU x)=its.any (eqU x) by simp,s_w r fs]
  exact q
 ·obtain ⟨its,r,pl,hz⟩:=I.tuple hq
  refine SeqAt.notIn_tupleAt (eqU x) pl (fun w hw=>u_y rx fx r fs w (by simpa using hw)) ⟨.bl _,H,I,rfl,?_⟩
  rw [show its.toArray.any (eqU x)=its.any (eqU x) by simp,s_w r fs]
  exact q
theorem o_g:OpR X (compareOp .NotIn) (fun x y H Q=>∃ i j,x = .str i/\y = .str j/\Q (.bl (!(!(Builtin.Str.occurrences j i 0 j.length 1).isEmpty))) H):=by
 intro pins s σ H x y v u Q I rx ry h
 obtain ⟨i,j,rfl,rfl,q⟩:=h
 obtain ⟨t,rfl⟩:=rx
 obtain ⟨t',rfl⟩:=ry
 exact notIn_str ⟨.bl _,H,I,rfl,q⟩
theorem s_i:CallR X (.type "list") (fun xs H Q=>∃ p ys,xs=[.ref p]/\(SqL X.K H p ys\/SqT X.K H p ys)/\∀ l,H l=none->Q (.ref l) (upd H l (.lst ys))):=by
 intro pins s σ H xs us Q I r h
 obtain ⟨p,ys,rfl,hq,q⟩:=h
 obtain ⟨u,rfl,rx⟩:=vals1 r
 cases rx
 have fin:∀ (its:List Value),Vals ys its->ys.length<=sizeLine->∀ (h':Heap) (c':Nat),(∀ b o',s.heap.get? b=some o'->h'.get? b=some o') ->
   h'.get? s.heap.objs.size=some { cls:=.type "list",dict:=none,data:=.seq its.toArray c',slots:=#[] }->EP X pins σ Q (.ref s.heap.objs.size) { s with heap:=h' }:=fun its r' hz h' c' kp e =>
  ⟨.ref s.heap.objs.size,_,I.laid (t':=s.toks) kp (Nat.le_refl _) (show ObjOk X.prog X.w _ h' _ (.lst ys) from ⟨hz,its,c',r',e⟩),rfl,q _ (I.hok.fresh (Nat.le_refl _))⟩
 rcases hq with hq | hq
 ·obtain ⟨its,r',pl,hz⟩:=I.list hq
  have hlen:=r'.length
  obtain ⟨o,ho,hc,n,hd⟩:=pl.isList
  exact call_list_seq p (.inl rfl) ho hc hd (fun h' c' kp e=>fin its r' hz h' c' kp e) (by simp only [List.size_toArray]<;>lia)
 ·obtain ⟨its,r',pl,hz⟩:=I.tuple hq
  have hlen:=r'.length
  obtain ⟨o,ho,hc,n,hd⟩:=pl
  exact call_list_seq p (.inr rfl) ho hc hd (fun h' c' kp e=>fin its r' hz h' c' kp e) (by simp only [List.size_toArray]<;>lia)
theorem y_h:CallR X (.type "tuple") (fun xs H Q=>∃ p ys,xs=[.ref p]/\((SqL X.K H p ys/\∀ l,H l=none->Q (.ref l) (upd H l (.tup ys)))\/(SqT X.K H p ys/\Q (.ref p) H))):=by
 intro pins s σ H xs us Q I r h
 obtain ⟨p,ys,rfl,h⟩:=h
 obtain ⟨u,rfl,rx⟩:=vals1 r
 cases rx
 rcases h with ⟨hq,q⟩ | ⟨hq,q⟩
 ·obtain ⟨its,r',pl,hz⟩:=I.list hq
  have hlen:=r'.length
  refine call_tuple_list pl.isList (fun h' kp=>?_) (by simp only [List.size_toArray]<;>lia)
  have I1:Inv X pins σ H { s with heap:=h' }:=I.kept (t':=s.toks) kp
  have I2:Inv X pins σ (upd H h'.objs.size (.tup ys)) { s with heap:=h'.push { cls:=.type "tuple",data:=.seq its.toArray } } :=
   I1.laid (t':=s.toks) (fun b o e=>Heap.get?_push_of_some _ e) (Nat.le_refl _) (show ObjOk X.prog X.w _ _ _ (.tup ys) from ⟨hz,its,r',IsTup.new _ _⟩)
  exact ⟨.ref h'.objs.size,_,I2,rfl,q _ (I1.hok.fresh (Nat.le_refl _))⟩
 ·obtain ⟨its,r',pl,hz⟩:=I.tuple hq
  exact call_tuple_same pl ⟨.ref p,H,I,rfl,q⟩
def tyV(K:PySem.W.Frag)(T:String)(x:V)(H:Hp):Prop:=match x with
 | .str _=>T = "str"
 | .int _=>T = "int"
 | .ref p=>(T = "list" /\ ∃ xs,SqL K H p xs)\/(T = "tuple" /\ ∃ o,K.lookup p=some o/\o.cls = .type "tuple" /\ o.dict=none) \/
   (T = "dict" /\ ((∃ kvs,H p=some (.dK kvs))\/∃ kvs,H p=some (.dT kvs)))\/(T = "set" /\ ∃ S n,H p=some (.set S n))
 | _=>False
theorem tyV_is{pins:List (Addr×Obj)}{σ:St}{H:Hp}{s:Shared}{T:String}{x:V}{v:Value}(I:Inv X pins σ H s)(r:RelV x v)(ty:tyV X.K T x H) :
  s.TypeIs v T/\∀ a,v = .ref a->∃ ob,s.heap.get? a=some ob/\ob.dict=none:=by
 cases x with
 | str z =>
  obtain ⟨t,rfl⟩:=r
  cases (show T = "str" from ty)
  exact ⟨typeIs_str s z t,fun _ e=>nomatch e⟩
 | int i =>
  obtain ⟨t,rfl⟩:=r
  cases (show T = "int" from ty)
  exact ⟨typeIs_int s i t,fun _ e=>nomatch e⟩
 | ref p =>
  cases r
  rcases ty with ⟨rfl,xs,hq⟩ | ⟨rfl,o,hk,hc,hd⟩ | ⟨rfl,hk⟩ | ⟨rfl,S,n,hk⟩
  ·obtain ⟨its,_,pl,_⟩:=I.list hq
   refine ⟨pl.isList.typeIs,fun a e=>?_⟩
   cases e
   obtain ⟨o,n,e,c,hd,_⟩:=pl
   exact ⟨o,e,hd⟩
  ·refine ⟨⟨o,I.kIn p o hk,hc⟩,fun a e=>?_⟩
   cases e
   exact ⟨o,I.kIn _ o hk,hd⟩
  ·have z:∃ o,s.heap.get? p=some o/\o.ExactDict:=by
    rcases hk with ⟨kvs,hk⟩ | ⟨kvs,hk⟩
    ·obtain ⟨_,_,_,_,o,_,_,e,ex,_⟩:=I.hok p _ hk
     exact ⟨o,e,ex⟩
    ·obtain ⟨_,_,_,_,o,_,_,e,ex,_⟩:=I.hok p _ hk
     exact ⟨o,e,ex⟩
   obtain ⟨o,e,ex⟩:=z
   refine ⟨⟨o,e,ex.1⟩,fun a e2=>?_⟩
   cases e2
   exact ⟨o,e,ex.2.1⟩
  ·obtain ⟨o,_,_,_,e,ex,_⟩:=I.hok p _ hk
   refine ⟨⟨o,e,ex.1⟩,fun a e2=>?_⟩
   cases e2
   exact ⟨o,e,ex.2.1⟩
 | _=>exact False.elim ty
def tBM0(K:PySem.W.Frag)(T:String)(r:V->List V->Hp->VK->Prop)(to:TE):TE:=fun σ H Q=>to σ H fun x H1=>tyV K T x H1/\r x [] H1 Q
def tBM(K:PySem.W.Frag)(T:String)(r:V->List V->Hp->VK->Prop)(to:TE)(t:TA):TE:=fun σ H Q=>to σ H fun x H1=>tyV K T x H1/\t σ H1 fun xs H2=>r x xs H2 Q
variable {o e:Expr} {es:List Expr} {to:TE} {t:TA} {name:Str} {apos cpos:Pos} {T id:String} {r:V->List V->Hp->VK->Prop}
theorem pe_bm0(pa:PlainAttrs T)(slot:Slot T name id)(hty:typeOf (.builtin id)=pure (.type "method_descriptor"))(hm:MtR X id r)(ho:PE X o to)
  (hbase:attributeBase o name X.env (eval o X.env)=eval o X.env:=by rfl) (hline:(apos.endLine == cpos.line)=true:=by rfl):PE X (.Call (.Attribute o name apos) [] [] cpos) (tBM0 X.K T r to):=by
 intro pins s σ H Q I h
 refine wpAny_Call_method0_late hbase hline (thn (ho pins s σ H _ I h) fun v s1 ⟨x,H1,I1,r1,ty,q1⟩=>?_)
 obtain ⟨h1,h2⟩:=tyV_is I1 r1 ty
 exact ⟨T,id,pa,slot,hty,h1,h2,Calls.callWith_builtin rfl (PySem.evalArgs_none (hm pins s1 σ H1 x [] v [] Q I1 r1 .nil q1))⟩
theorem w_t(pa:PlainAttrs T)(slot:Slot T name id)(hty:typeOf (.builtin id)=pure (.type "method_descriptor"))(hm:MtR X id r)(ho:PE X o to)(ha:PA X (e::es) t)
  (hbase:attributeBase o name X.env (eval o X.env)=eval o X.env:=by rfl)
  (hfew:((backTo cpos (starEach (e::es) X.env)).all (fun x=>!x.1)&&(backToKw cpos (keywordEach [] X.env)).all (fun x=>x.1.isSome)
   && decide ((e::es).length+([]:List Keyword).length+(if ([]:List Keyword).isEmpty then 0 else 1)<30))=true:=by rfl)
  (hline:(apos.endLine == cpos.line)=true:=by rfl) (hs:starEach (e::es) X.env=(false,eval e X.env)::starEach es X.env:=by rfl) (hplain:(backTo cpos (starEach es X.env)).any (·.1)=false:=by rfl) :
  PE X (.Call (.Attribute o name apos) (e::es) [] cpos) (tBM X.K T r to t):=by
 intro pins s σ H Q I h
 refine wpAny_Call_method_late hbase hfew hline rfl (thn (ho pins s σ H _ I h) fun v s1 ⟨x,H1,I1,r1,ty,q1⟩=>?_)
 obtain ⟨h1,h2⟩:=tyV_is I1 r1 ty
 refine ⟨T,id,pa,slot,hty,h1,h2,?_⟩
 have hA:=ha cpos pins s1 σ H1 _ I1 q1
 rw [hs] at hA ⊢
 refine Calls.callWith_builtin (by show (false || (backTo cpos (starEach es X.env)).any (·.1))=false;rw [hplain]<;>rfl) (Calls.evalArgs_plain ?_)
 exact thn hA fun us s2 ⟨vs,H2,I2,r2,q2⟩=>hm pins s2 σ H2 x vs v us Q I2 r1 r2 q2
/- xs.append(e),list.index on a module's tuple .. are MtR facts of 06m -/
end
end L2
namespace L2
open PySem PySem.Spec PyProof.Rows
def MtM(X:Cx)(id:String)(r:V->List V->Hp->VK->Prop):Prop :=
 ∀ (pins:List (Addr×Obj)) (s:Shared) (σ:St) (H:Hp) (x:V) (xs:List V) (v:Value) (us:List Value) (Q:VK),Inv X pins σ H s->RelV x v->Vals xs us->r x xs H Q ->
  wpAny (model X.prog X.w) X.A (call (.builtin id) (v::us)) (EP X pins σ Q) X.xe s
theorem Vals.one:∀ {x:V} {us:List Value},Vals [x] us->∃ u,us=[u]/\RelV x u
 | _,_,.cons r .nil=>⟨_,rfl,r⟩
theorem Vals.zero:∀ {us:List Value},Vals [] us->us=[]
 | _,.nil=>rfl
theorem Vals.reverse{xs:List V}{us:List Value}(h:Vals xs us):Vals xs.reverse us.reverse:=by
 induction h with
 | nil=>exact .nil
 | cons r t ih=>rw [List.reverse_cons,List.reverse_cons];exact Vals.append ih (.cons r .nil)
section
variable {X:Cx} {pins:List (Addr×Obj)} {σ:St} {H:Hp} {s:Shared} {l b:Addr} {xs ys zs:List V}
theorem Inv.lset{its its':List Value}{n:Nat}{f:Array Value->Array Value}{t':Nat}(I:Inv X pins σ H s)(hH:H l=some (.lst xs))
  (e:s.heap.get? l=some { cls:=.type "list",data:=.seq its.toArray n }) (hf:f its.toArray=its'.toArray) (hv:Vals ys its') (hz:ys.length<=sizeLine) :
  Inv X pins σ (upd H l (.lst ys)) { s with heap:=s.heap.update l (Obj.mapSeq f),toks:=t' }:=by
 have q:=PySem.IsL.update e f
 rw [hf] at q
 refine I.write (x:=l) (e:=l) (by rw [hH];exact trivial) (.inl rfl) (fun b' u hb hu=>(Heap.get?_update_other s.heap (Obj.mapSeq f) (Ne.symm hb)).trans hu) ⟨_,q⟩ ?_
 exact ⟨hz,its',_,hv,q⟩
theorem Inv.lnew{its:List Value}{t':Nat}(I:Inv X pins σ H s)(hv:Vals ys its)(hz:ys.length<=sizeLine) :
  Inv X pins σ (upd H s.heap.objs.size (.lst ys)) { s with heap:=s.heap.push { cls:=.type "list",data:=.seq its.toArray },toks:=t' } :=
 I.laid (fun _ _ q=>Heap.get?_push_of_some _ q) (Nat.le_refl _) ⟨hz,its,0,hv,Heap.get?_push_size _ rfl⟩
theorem Inv.fresh(I:Inv X pins σ H s):H s.heap.objs.size=none:=I.hok.fresh (Nat.le_refl _)
theorem Inv.lstM(I:Inv X pins σ H s)(hH:H l=some (.lst xs)):xs.length<=sizeLine/\∃ (its:List Value) (n:Nat),Vals xs its/\xs.length=its.length/\s.heap.get? l=some { cls:=.type "list",data:=.seq its.toArray n }:=by
 obtain ⟨z,its,n,r,e⟩:=I.hok l _ hH
 exact ⟨z,its,n,r,r.length,e⟩
theorem notLongL{n:Nat}(h:n<=sizeLine):Builtin.List.listTooLong n=false:=by
 unfold Builtin.List.listTooLong
 exact decide_eq_false (by lia)
end
section
variable {X:Cx}
def rAppend:V->List V->Hp->VK->Prop:=fun x vs H Q=>∃ l xs y,x = .ref l/\vs=[y]/\H l=some (.lst xs)/\xs.length<sizeLine/\Q .non (upd H l (.lst (xs++[y])))
theorem x_e:MtM X "list.append" rAppend:=by
 intro pins s σ H x vs v us Q I rx rv h
 obtain ⟨l,xs,y,rfl,rfl,hH,hz,q⟩:=h
 cases rx
 obtain ⟨u,rfl,ru⟩:=rv.one
 obtain ⟨z,its,n,r,hl,e⟩:=I.lstM hH
 refine call_meets F.slot_list_append ⟨_,e,rfl⟩ F.entry_list_append (F.args_list_append_2 _ _) (PySem.list_append l its.toArray n u (by rw [List.size_toArray];lia)) ⟨e,?_⟩
 refine ⟨.non,_,I.lset (its':=its++[u]) hH e (by simp) (r.append (.cons ru .nil)) ?_,rfl,q⟩
 rw [List.length_append,List.length_singleton]
 lia
def rExtend:V->List V->Hp->VK->Prop:=fun x vs H Q=>∃ l b xs zs,x = .ref l/\vs=[.ref b]/\H l=some (.lst xs)/\H b=some (.lst zs)/\xs.length+zs.length<=sizeLine/\Q .non (upd H l (.lst (xs++zs)))
theorem u_l:MtM X "list.extend" rExtend:=by
 intro pins s σ H x vs v us Q I rx rv h
 obtain ⟨l,b,xs,zs,rfl,rfl,hH,hB,hz,q⟩:=h
 cases rx
 obtain ⟨u,rfl,ru⟩:=rv.one
 cases ru
 obtain ⟨z,its,n,r,hl,e⟩:=I.lstM hH
 obtain ⟨z2,its2,n2,r2,hl2,e2⟩:=I.lstM hB
 have hsz:its.toArray.size+its2.toArray.size<=sizeLine:=by rw [List.size_toArray,List.size_toArray];lia
 have hlong:¬(!its.toArray.isEmpty&&Builtin.List.listTooLong (its.toArray.size+its2.toArray.size))=true:=by
  rw [notLongL hsz,Bool.and_false]
  exact Bool.false_ne_true
 refine call_meets F.slot_list_extend ⟨_,e,rfl⟩ F.entry_list_extend (F.args_list_extend_2 _ _)
  (AutoSeq1.list_extend_list_list_0 l its.toArray n b its2.toArray n2 hlong (by rw [List.size_toArray];lia) (by lia)) ⟨e,e2,?_⟩
 refine ⟨.non,_,I.lset (its':=its++its2) hH e (by simp) (r.append r2) ?_,rfl,q⟩
 rw [List.length_append]
 lia
def rReverse:V->List V->Hp->VK->Prop:=fun x vs H Q=>∃ l xs,x = .ref l/\vs=[]/\H l=some (.lst xs)/\Q .non (upd H l (.lst xs.reverse))
theorem l_w:MtM X "list.reverse" rReverse:=by
 intro pins s σ H x vs v us Q I rx rv h
 obtain ⟨l,xs,rfl,rfl,hH,q⟩:=h
 cases rx
 have hus:=rv.zero
 subst hus
 obtain ⟨z,its,n,r,hl,e⟩:=I.lstM hH
 refine call_meets F.slot_list_reverse ⟨_,e,rfl⟩ F.entry_list_reverse (F.args_list_reverse_1 _) (AutoSeq1.list_reverse_list_0 l its.toArray n (by rw [List.size_toArray];lia)) ⟨e,?_⟩
 refine ⟨.non,_,I.lset (its':=its.reverse) hH e (by simp) r.reverse ?_,rfl,q⟩
 rw [List.length_reverse]
 lia
def rCat:R2:=fun x y H Q=>∃ l b xs zs,x = .ref l/\y = .ref b/\H l=some (.lst xs)/\H b=some (.lst zs)/\xs.length+zs.length<=sizeLine/\∀ p,H p=none->Q (.ref p) (upd H p (.lst (xs++zs)))
theorem u_h:OpR X (binaryOp .Add) rCat:=by
 intro pins s σ H x y v u Q I rx ry h
 obtain ⟨l,b,xs,zs,rfl,rfl,hH,hB,hz,q⟩:=h
 cases rx
 cases ry
 obtain ⟨z,its,n,r,hl,e⟩:=I.lstM hH
 obtain ⟨z2,its2,n2,r2,hl2,e2⟩:=I.lstM hB
 refine PySem.P.add_list e e2 ?_ (by rw [List.size_toArray,List.size_toArray];lia)
 have ea:its.toArray++its2.toArray=(its++its2).toArray:=by simp
 rw [ea]
 exact ⟨.ref _,_,I.lnew (t':=s.toks) (r.append r2) (by rw [List.length_append];lia),rfl,q _ I.fresh⟩
end
open PySem PySem.Spec PyProof.Rows
section
variable {κ:Type} [DecidableEq κ]
theorem RelO.isSome_eq{o:Option V}{u:Option Value}(r:RelO o u):o.isSome=u.isSome:=by
 cases o with
 | none=>cases u with
  | none=>rfl
  | some _=>exact (show False from r).elim
 | some _=>cases u with
  | none=>exact (show False from r).elim
  | some _=>rfl
end
end L2
namespace Att
open PySem PySem.W PySem.Calls PyProof.Rows
theorem r_a{P:Params}{h:Heap}:∀ (ns:List Int) (vs:List Value),WellAll P h vs (ns.map WData.int)->IntsAre vs ns:=by
 intro ns
 induction ns with
 | nil =>
  intro vs w
  rw [List.map_nil] at w
  cases w
  exact .nil
 | cons n ns ih =>
  intro vs w
  rw [List.map_cons] at w
  cases w with
  | cons a b =>
   cases a
   exact .cons _ _ (ih _ b)
theorem i_r{l:OpenLaw}{n:Nat}(hn:l.most=some n){P:Params}{h:Heap}{args:List WData}{vals:List Value}
  (hpre:l.row.toRowW.claim.pre args=true) (hwl:WellAll P h vals args) :
  ∃ a vs ns,vals=[Value.ref a]/\args=[WData.list (ns.map WData.int)]/\h.get? a=some { cls:=.type "list",data:=.seq vs.toArray }/\IntsAre vs ns/\ns.length<=n:=by
 have hsh:WShape.hasAll [] args [.list .int]=true:=(pre_splitW hpre).1
 have hc:l.pre.holds [] { args:=args }=true:=(pre_splitW hpre).2
 obtain ⟨d,r,rfl,h1,h2⟩:=hasAllW_cons hsh
 obtain rfl:=hasAllW_nil h2
 obtain ⟨xs,rfl,h3⟩:=hasW_list h1
 obtain ⟨ns,rfl⟩:=items_int h3
 have hlen:ns.length<=n:=by
  unfold OpenLaw.pre at hc
  have h4:(WTm.not (.lt (.lit (.int (n:Int))) (.len (.arg 0)))).holds [] { args:=[.list (ns.map .int)] }=true:=by
   have h4:=(holds_andW hc).1
   rw [hn] at h4
   exact h4
  have h5:=condW_of h4 (w_not (w_lt w_lit (w_len_list (w_arg rfl))))
  rw [List.length_map] at h5
  refine Nat.le_of_not_lt fun q=>?_
  have q':(n:Int)<((ns.length:Nat):Int):=by lia
  first
   | (rw [decide_eq_true q'] at h5;exact absurd h5 (by decide))
   | (simp at h5;lia)
 cases hwl with
 | cons w1 w2 =>
  cases w2
  cases w1 with
  | list ho hall=>exact ⟨_,_,ns,rfl,rfl,ho,r_a ns _ hall,hlen⟩
theorem i_h(l:OpenLaw)(args:List WData):l.row.toRowW.claim.post args (.bool true) args=true :=
 postW_of (r:=l.row.toRowW) (X:=(true == true))
  (show WShape.has [] (.bool true) .bool=true by first | rfl | decide | simp [WShape.has,WShape.arms,WShape.armsAll])
  (show (WTm.eq .res (.lit (.bool true))).value [] { args:=args,res:=some (.bool true),after:=args }=some (.bool (true == true)) from w_eq_bool (w_res rfl) w_lit) rfl
theorem attach_call{l:OpenLaw}{n:Nat}{q:Program}{loose:List Str}{XP:(Str->Option Value)->Heap->Prop}{YP:World->Heap->Prop}{d:DefRec}
  (hn:l.most=some n) (hdf:d.params.defaults=[])
  (call:∀ (w:World) (s₀ s₁:Shared) (mg mb:Str->Option Value) (fa:Addr) (o:Obj) (pm cd doc:Value) (a:Addr) (vs:List Value) (ns:List Int),
   Ground q loose [] XP w s₀ mg mb s₁.heap->YP w s₁.heap ->
   s₁.heap.get? fa=some o->o.data = .func (docDef d.name d.params d.body d.scope pm cd doc)->s₁.heap.CodeRec cd d.name->mg d.name=some (.ref fa) ->
   s₁.heap.get? a=some { cls:=.type "list",data:=.seq vs.toArray }->IntsAre vs ns->ns.length<=n->s₁.gens = #[] ->
   codeAny (model l.prog w) callerA (.call (.ref fa) ⟨[.ref a],[]⟩) (fun r s'=>r = .ok (.ret (.bool true))/\OldK s₁.heap s'.heap/\s'.os=s₁.os/\AllBare s'.gens) s₁) :
  WalkO q loose XP YP l.row.toRowW d [] (fun f vs=>PySem.call f vs):=by
 intro w s₀ s₁ mg mb G Y fa o pm cd doc dV kV ho hd hcd hD hmg hg args vals as hpre hlay hrd hwl hlo
 obtain rfl:dV = .none:=Dflts.none hD hdf
 obtain rfl:kV = .none:=Dflts.noKw hD
 obtain ⟨a,vs,ns,rfl,rfl,hobj,hints,hlen⟩:=i_r hn hpre hwl
 refine enter_call (codeAny_mono (call w s₀ s₁ mg mb fa o pm cd doc a vs ns G Y ho (fd_plain hd) hcd hmg hobj hints hlen hg) fun r s' hq=>?_)
 obtain ⟨rfl,h2,h3,h4⟩:=hq
 exact ⟨.inl ⟨.bool true,.bool true,[],rfl,fun _=>rfl,.bool true,i_h l _,fun _=>⟨List.Pairwise.nil,fun _ hm=>(nomatch hm)⟩⟩,h2,h3,h4⟩
end Att
namespace L2
open PySem PySem.Spec PyProof.Rows
theorem o_r:∀ {vs:List Value} {ns:List Int},IntsAre vs ns->Vals (ns.map V.int) vs
 | _,_,.nil=>.nil
 | _,_,.cons n t h=>.cons ⟨t,rfl⟩ (o_r h)
def Only(H:Hp):Prop:=∀ b,H b=none\/∃ o xs,H b=some (.frz o (.lst xs))
theorem law_call{P:Program}{w:World}{K:PySem.W.Frag}{mg mb:Str->Option Value}{CX:CXT}{k:Nat}{fa a:Addr}{fd:FuncData}{x:Str}{sp:Sp}{s₁:Shared}{vs:List Value}{ns:List Int}
  (KX:K.In s₁.heap) (hns:s₁.heap.Ns mainGlobals mg) (hb:s₁.heap.Ns builtinsNs mb) (hbb:∀ x:Str,x ≠ "__name__" -> mb x=bootBuiltins x) (hlim:s₁.heap.NoLimit) (hg:s₁.gens = #[])
  (ha:s₁.heap.get? a=some { cls:=.type "list",data:=.seq vs.toArray }) (hi:IntsAre vs ns) (hl:ns.length<=sizeLine) (hr:Room k callerA)
  (F:∀ base:Heap,K.In base->base.Ns mainGlobals mg->FnOk P w K mg base CX k fa fd [x] sp) (hbind:∀ (s:Shared) (u:Value),BindsTo s fd ⟨[u],[]⟩ [(x,u)])
  (hsp:∀ H:Hp,Only H->SqL K H a (ns.map V.int)->sp [.ref a] H (fun v _=>v = .bl true) fun _ _ _=>False)
  (hCX:∀ H e s',CX [] H s₁ (fun _ _ _=>False) e s'->False) :
  codeAny (model P w) callerA (.call (.ref fa) ⟨[.ref a],[]⟩) (fun r s'=>r = .ok (.ret (.bool true))/\OldK s₁.heap s'.heap/\s'.os=s₁.os/\AllBare s'.gens) s₁:=by
 have rv:=o_r hi
 have lenV:=hi.length
 have core:∀ H:Hp,Only H->SqL K H a (ns.map V.int)->HOk P w H s₁.heap->(∀ b,H b≠none->b=a)->(H a≠none->K.lookup a=none) ->
   codeAny (model P w) callerA (.call (.ref fa) ⟨[.ref a],[]⟩) (fun r s'=>r = .ok (.ret (.bool true))/\OldK s₁.heap s'.heap/\s'.os=s₁.os/\AllBare s'.gens) s₁:=by
  intro H hO hS hok hA hK
  have base_of:∀ {b:Addr} {o:Obj},s₁.heap.get? b=some o->H b=none->(hidT s₁.heap H).get? b=some o:=fun e n=>hidT_get e n
  have noA:∀ {b:Addr} {o:Obj} {es:Array DictEntry} {ep:Nat},s₁.heap.get? b=some o->o.data = .dict es ep->H b=none:=fun {b o es ep} e d=>by
   cases q:H b with
   | none=>rfl
   | some u =>
    have e':b=a:=hA b (by rw [q];simp)
    subst e'
    rw [ha] at e;cases e
    have d':Data.seq vs.toArray _=Data.dict es ep:=d
    cases d'
  have nsK:∀ {b:Addr} {m:Str->Option Value},s₁.heap.Ns b m->(hidT s₁.heap H).Ns b m:=fun {b m} ⟨o,es,ep,e,d,r⟩=>⟨o,es,ep,base_of e (noA e d),d,r⟩
  have hKb:K.In (hidT s₁.heap H):=fun b o e=>base_of (KX b o e) (by
   cases q:H b with
   | none=>rfl
   | some u =>
    have e':b=a:=hA b (by rw [q];simp)
    subst e'
    rw [hK (by rw [q];simp)] at e;cases e)
  have hM:Mod K mg (hidT s₁.heap H):=⟨hKb,nsK hns,⟨mb,nsK hb,hbb⟩,let ⟨mc,h1,h2⟩:=hlim;⟨mc,nsK h1,h2⟩⟩
  have e0:Env0 P w K mg (hidT s₁.heap H) callerA [] s₁ H:=⟨rfl,rfl,hM,fun b o e=>of_hidT e,Nat.le_of_eq (j_f _ _),trivial,fun b hb=>absurd (show b∈([]:List Addr) from hb) (by simp),hok,.of_eq hg⟩
  refine codeAny_mono ((F _ hKb (nsK hns)).run callerA [] s₁ H ⟨[.ref a],[]⟩ [.ref a] [.ref a] _ _ hr e0 (hbind s₁ (.ref a)) (.cons rfl .nil) (hsp H hO hS)) fun r s' h=>?_
  cases r with
  | error e=>exact (hCX H e s' h).elim
  | ok fl =>
   cases fl with
   | next=>exact False.elim h
   | brk=>exact False.elim h
   | cont=>exact False.elim h
   | ret u =>
    obtain ⟨v,H',os,bare,un,hok',r',q⟩:=h
    have q':v = .bl true:=q
    subst q'
    obtain rfl:u=Value.bool true:=r'
    refine ⟨rfl,OldK.of_keep fun b o e=>?_,os,bare⟩
    cases q:H b with
    | none=>exact un.keep b o e q (by intro z;exact absurd (show b∈([]:List Addr) from z) (by simp)) (by simp)
    | some u =>
     rcases hO b with z | ⟨ob,xs,z⟩
     ·rw [q] at z;cases z
     ·have z2:=un.frzs b ob _ z
      obtain ⟨e1,_⟩:=hok b _ z
      obtain ⟨e2,_⟩:=hok' b _ z2
      rw [e] at e1;cases e1
      exact e2
 cases hk:K.lookup a with
 | some o =>
  have e:=KX a o hk
  rw [ha] at e
  cases e
  refine core (fun _=>none) (fun _=>.inl rfl) (.inr ⟨_,vs.toArray,_,hk,rfl,rfl,rfl,by rw [List.size_toArray,lenV];exact hl,by simpa using rv⟩) (fun b u z=>by have z':(none:Option HO)=some u:=z;cases z') (fun b z=>absurd rfl z) fun z=>absurd rfl z
 | none =>
  refine core (fun b=>if b=a then some (.frz { cls:=.type "list",data:=.seq vs.toArray } (.lst (ns.map V.int))) else none) (fun b=>?_) (.inl (.inr ⟨{ cls:=.type "list",data:=.seq vs.toArray },if_pos rfl⟩)) (fun b u z=>?_) (fun b z=>?_) fun _=>hk
  ·by_cases hb:b=a
   ·exact .inr ⟨_,_,if_pos hb⟩
   ·exact .inl (if_neg hb)
  ·by_cases hb:b=a
   ·have z':=(if_pos hb).symm.trans z
    cases z'
    subst hb
    exact ⟨ha,by rw [List.length_map];exact hl,vs,_,rv,ha⟩
   ·have z':=(if_neg hb).symm.trans z
    cases z'
  ·by_cases hb:b=a
   ·exact hb
   ·exact absurd (if_neg hb) z
theorem walk_of{l:PySem.W.OpenLaw}{n k:Nat}{q:Program}{loose:List Str}{XP:(Str->Option Value)->Heap->Prop}{YP:World->Heap->Prop}{d:DefRec}{K:Params->PySem.W.Frag}{CX:World->CXT}{sp:World->Sp}{x:Str}
  (hn:l.most=some n) (hn2:n<=sizeLine) (hdf:d.params.defaults=[]) (hr:Room k callerA)
  (hY:∀ (w:World) (h:Heap),YP w h->(K w.params).In h)
  (F:∀ (w:World) (mg:Str->Option Value) (fa:Addr) (h:Heap),(K w.params).In h->h.Ns mainGlobals mg->mg d.name=some (.ref fa) ->
   ∃ fd:FuncData,(∀ (s:Shared) (u:Value),BindsTo s fd ⟨[u],[]⟩ [(x,u)]) /\
    ∀ base:Heap,(K w.params).In base->base.Ns mainGlobals mg->FnOk l.prog w (K w.params) mg base (CX w) k fa fd [x] (sp w))
  (hsp:∀ (w:World) (H:Hp) (a:Addr) (ns:List Int),ns.length<=n->Only H->SqL (K w.params) H a (ns.map V.int)->sp w [.ref a] H (fun v _=>v = .bl true) fun _ _ _=>False)
  (hCX:∀ (w:World) (H:Hp) (s:Shared) (e:Value) (s':Shared),CX w [] H s (fun _ _ _=>False) e s'->False) :
  PySem.W.WalkO q loose XP YP l.row.toRowW d [] (fun f vs=>PySem.call f vs):=by
 refine Att.attach_call hn hdf fun w s₀ s₁ mg mb fa o pm cd doc a vs ns G Y ho hd hcd hmg hobj hints hlen hg=>?_
 have KX:=hY w _ Y
 obtain ⟨fd,hb,hF⟩:=F w mg fa _ KX G.T.g hmg
 exact law_call KX G.T.g G.T.b G.T.builtins G.T.nolimit hg hobj hints (Nat.le_trans hlen hn2) hr hF hb (fun H hO hS=>hsp w H a ns hlen hO hS) fun H e s'=>hCX w H s₁ e s'
def s_f(s:Stmt):Arguments:=match s with
 | .FunctionDef _ a _ _ _ _ _ _ _ _=>a
 | _=>{ posonlyargs:=[],args:=[],vararg:=none,kwonlyargs:=[],kw_defaults:=[],kwarg:=none,defaults:=[] }
def v_l(s:Stmt):List Stmt:=match s with
 | .FunctionDef _ _ b _ _ _ _ _ _ _=>b
 | _=>[]
def z_m(s:Stmt):Scope:=match s with
 | .FunctionDef _ _ _ _ _ _ sc _ _ _=>sc
 | _=>{ kind:=.function,names:=[],isGenerator:=false,isCoroutine:=false }
abbrev CX0:CXT:=fun _ _ _ _ _ _=>False
abbrev E0:XK:=fun _ _ _=>False
theorem pass0{X:Cx}:Passes CX0 X E0:=fun _ _ _ _ _ _ _ h=>h.elim
structure Fun(K:PySem.W.Frag)(x qual:Str)(st:Stmt)(f:Addr)(fd:FuncData):Prop where
 ex:∃ (oc:Value) (od:Option Addr) (kV doc pm:Value) (an:Option Addr) (cdv ct:Value) (osl:Array (Option Value)),
  fd=fnOf x qual (s_f st) (v_l st) (z_m st) .none kV doc pm an cdv ct/\K.lookup f=some ⟨oc,od,.func fd,osl⟩/\codeIn K cdv qual=true
 kp:keepIn K (.ref f)=true
section
variable {P:Program} {w:World} {K:PySem.W.Frag} {mg:Str->Option Value} {base:Heap}
theorem Fun.ok{x qual:Str}{st:Stmt}{f:Addr}{fd:FuncData}{N ps:List Str}{k:Nat}{sp:Sp}(F:Fun K x qual st f fd)(S:FnScope N ps (z_m st))(len:∀ vs H Q E,sp vs H Q E->vs.length=ps.length)
  (hbody:∀ (cdv:Value) (A:Around) (outer:List Env) (s:Shared) (H:Hp) (vs:List V) (Q:VK) (E:XK),Room k (A.deeper (envOfC qual (z_m st) s.heap.objs.size f cdv))->sp vs H Q E ->
   ∃ t,PSs (cxOf CX0 P w K mg base N qual (z_m st) f cdv A outer s H E).nox (v_l st) t/\t { nx:=fun _ H'=>Q .non H',rt:=Q } (start N vs) H):FnOk P w K mg base CX0 (k+1) f fd ps sp:=by
 obtain ⟨oc,od,kV,doc,pm,an,cdv,ct,osl,rfl,lk,hcd⟩:=F.ex
 refine fn_of lk hcd S len fun A outer s H vs Q E hr hsp=>?_
 obtain ⟨t,h,q⟩:=hbody cdv A outer s H vs Q E hr hsp
 exact ⟨t,h.nox,q⟩
theorem Fun.binds{x qual:Str}{st:Stmt}{f:Addr}{fd:FuncData}{ps:List Str}(F:Fun K x qual st f fd)
  (h:∀ (kV doc pm:Value) (an:Option Addr) (cdv ct:Value) (us:List Value),us.length=ps.length->bindArgs (fnOf x qual (s_f st) (v_l st) (z_m st) .none kV doc pm an cdv ct) ⟨us,[]⟩=pure (ps.zip us)):Binds K fd ps []:=by
 obtain ⟨oc,od,kV,doc,pm,an,cdv,ct,osl,rfl,lk,hcd⟩:=F.ex
 exact .all (h kV doc pm an cdv ct)
theorem fun_mk{x qual:Str}{st:Stmt}{f:Addr}{oc:Value}{od an:Option Addr}{osl:Array (Option Value)}{kV doc pm cdv ct:Value}(l:K.lookup f=some ⟨oc,od,.func (fnOf x qual (s_f st) (v_l st) (z_m st) .none kV doc pm an cdv ct),osl⟩)
  (c:codeIn K cdv qual=true) (k:keepIn K (.ref f)=true):Fun K x qual st f (fnOf x qual (s_f st) (v_l st) (z_m st) .none kV doc pm an cdv ct):=⟨⟨oc,od,kV,doc,pm,an,cdv,ct,osl,rfl,l,c⟩,k⟩
end
section
variable {X:Cx}
theorem pv(i:Nat){x:Str}{pos:Pos}(hN:X.N[i]? = some x:=by rfl)(hv:Vis X.env.scope x:=by first | exact Or.inl rfl | exact Or.inr (Or.inl rfl) | exact Or.inr (Or.inr rfl))(hd:(x == ("__debug__" : Str))=false:=by decide)
  (hcd:(x == ("__classdict__" : Str))=false:=by decide):PE X (.Name x pos) (tVar i):=pe_var hN hv hd hcd
end
theorem iteF{A B:Prop}(h:B):if false=true then A else B:=by
 rw [if_neg Bool.false_ne_true]
 exact h
theorem iteT{A B:Prop}(h:A):if true=true then A else B:=by
 rw [if_pos rfl]
 exact h
theorem ite2{c A B:Prop}[Decidable c](h1:c->A)(h2:¬c->B):if c then A else B:=by
 by_cases h:c
 ·rw [if_pos h]
  exact h1 h
 ·rw [if_neg h]
  exact h2 h
def Same(H H':Hp):Prop:=∀ b o,H b=some o->H' b=some o
theorem Same.refl(H:Hp):Same H H:=fun _ _ h=>h
theorem Same.trans{H H1 H2:Hp}(a:Same H H1)(b:Same H1 H2):Same H H2:=fun c o h=>b c o (a c o h)
theorem Same.free{H H':Hp}(e:Same H H'){l:Addr}(h:H' l=Option.none):H l=Option.none:=by
 cases q:H l with
 | none=>rfl
 | some o =>
  rw [e l o q] at h
  cases h
theorem Same.seq{K:PySem.W.Frag}{H H':Hp}{a:Addr}{xs:List V}(e:Same H H')(h:SqL K H a xs):SqL K H' a xs:=by
 rcases h with (h | ⟨o,h⟩) | h
 ·exact .inl (.inl (e _ _ h))
 ·exact .inl (.inr ⟨o,e _ _ h⟩)
 ·exact .inr h
end L2
namespace L2
open PySem PySem.Spec PyProof.Rows
end L2
namespace L2
open PySem PySem.Spec PyProof.Rows
def clOf(env:Env):List (Str×NameKind)->List (Str×Addr)->List (Str×Addr)
 | [],acc=>acc
 | (n,k)::r,acc=>if (k == NameKind.free)=true then clOf env r ((n,(env.cells.lookup n).getD 0)::acc) else clOf env r acc
theorem x_n{env:Env}{x:Str}:∀ (l:List (Str×NameKind)) (acc:List (Str×Addr)),
  (clOf env l acc).lookup x=if (l.any fun p=>(p.1 == x)&&(p.2 == NameKind.free))=true then some ((env.cells.lookup x).getD 0) else acc.lookup x
 | [],acc=>by simp [clOf]
 | (n,k)::r,acc=>by
  unfold clOf
  by_cases hk:(k == NameKind.free)=true
  ·rw [if_pos hk,x_n r]
   by_cases hr:(r.any fun p=>(p.1 == x)&&(p.2 == NameKind.free))=true
   ·rw [if_pos hr,if_pos]
    rw [List.any_cons,hr,Bool.or_true]
   ·rw [if_neg hr]
    have hr':(r.any fun p=>(p.1 == x)&&(p.2 == NameKind.free))=false:=(Bool.not_eq_true _).mp hr
    rw [List.any_cons,hr',Bool.or_false,hk,Bool.and_true,List.lookup_cons]
    by_cases hn:n=x
    ·subst hn
     simp
    ·have h1:(n == x)=false:=by simpa using hn
     have h2:(x == n)=false:=by simpa using fun z=>hn (Eq.symm z)
     simp [h1,h2]
  ·rw [if_neg hk,x_n r]
   have hk':(k == NameKind.free)=false:=by simpa using hk
   rw [List.any_cons,hk',Bool.and_false,Bool.false_or]
theorem u_j{env:Env}{scope:Scope}(h:∀ n k,(n,k)∈scope.names->(k == NameKind.free)=true->(env.cells.lookup n).isSome=true):closureFor scope env=pure (clOf env scope.names []):=by
 have go:∀ (l:List (Str×NameKind)) (acc:List (Str×Addr)),(∀ n k,(n,k)∈l->(k == NameKind.free)=true->(env.cells.lookup n).isSome=true) ->
   (forIn l acc (fun (x:Str×NameKind) (r:List (Str×Addr))=>match x with
    | (name,kind)=>if (kind == NameKind.free)=true then (do let a <-cellOf env name;pure (ForInStep.yield ((name,a)::r))) else pure (ForInStep.yield r)):Sem (List (Str×Addr)))=pure (clOf env l acc):=by
  intro l
  induction l with
  | nil=>intro acc _;rfl
  | cons p r ih =>
   intro acc hp
   obtain ⟨n,k⟩:=p
   rw [List.forIn_cons]
   unfold clOf
   by_cases hk:(k == NameKind.free)=true
   ·obtain ⟨c,hc⟩:=Option.isSome_iff_exists.mp (hp n k List.mem_cons_self hk)
    have hc1:cellOf env n=pure c:=by simp only [cellOf,hc]
    simp only [hk,if_true,hc1,hc,Option.getD_some]
    have:=ih ((n,c)::acc) (fun n' k' h'=>hp n' k' (List.mem_cons_of_mem _ h'))
    simpa using this
   ·simp only [hk,if_false]
    have:=ih acc (fun n' k' h'=>hp n' k' (List.mem_cons_of_mem _ h'))
    simpa using this
 have:=go scope.names [] h
 simp only [closureFor]
 simpa using this
def compOk(sc out:Scope)(xs:List Str)(cs:List Str):Bool :=
 (sc.kind == .function)&&(out.kind == .function)&&sc.names.all (fun p=>p.2 != NameKind.cell)&&sc.names.all (fun p=>p.2 != NameKind.local || sc.names.lookup p.1 == some .local)&&xs.all (fun x=>sc.names.lookup x == some .local)
  && sc.names.all (fun p=>p.2 != NameKind.free || out.names.lookup p.1 == some .cell)&&cs.all (fun c=>sc.names.lookup c == some .free)
structure CompOk(sc out:Scope)(xs:List Str)(cs:List Str):Prop where
 kind:sc.kind = .function
 okind:out.kind = .function
 cell:∀ y∈sc.names,y.2 ≠ .cell
 names:∀ y∈sc.names,y.2 = .local->sc.names.lookup y.1=some .local
 x:∀ x∈xs,sc.names.lookup x=some .local
 free:∀ n k,(n,k)∈sc.names->k = .free->out.names.lookup n=some .cell
 cs:∀ c∈cs,sc.names.lookup c=some .free
theorem compOk.mk{sc out:Scope}{xs:List Str}{cs:List Str}(h:compOk sc out xs cs=true):CompOk sc out xs cs:=by
 unfold compOk at h
 simp only [Bool.and_eq_true,List.all_eq_true,beq_iff_eq,bne_iff_ne,ne_eq,Bool.or_eq_true] at h
 obtain ⟨⟨⟨⟨⟨⟨h1,h2⟩,h3⟩,h4⟩,h5⟩,h6⟩,h7⟩:=h
 exact ⟨h1,h2,h3,fun y hy hl=>(h4 y hy).resolve_left fun z=>z hl,h5,fun n k hm hk=>(h6 (n,k) hm).resolve_left fun z=>z hk,h7⟩
theorem o_j{sc:Scope}{env:Env}{n:Str}(hk:env.scope.kind = .function)(hout:env.scope.names.lookup n=some .cell)(h:sc.names.lookup n=some .free):(relabel sc env).names.lookup n=some .cell:=by
 unfold relabel
 have go:∀ l:List (Str×NameKind),l.lookup n=some .free ->
   (l.map fun (p:Str×NameKind)=>if (p.2 == NameKind.free&&env.scope.kind == .function&&env.kindOf p.1 == some .cell)=true then (p.1,NameKind.cell) else (p.1,p.2)).lookup n=some .cell:=by
  intro l
  induction l with
  | nil=>intro h;simp at h
  | cons p r ih =>
   intro h
   obtain ⟨m,k⟩:=p
   rw [List.lookup_cons] at h
   cases hm:n == m with
   | true =>
    rw [hm] at h
    cases h
    have e:n=m:=by simpa using hm
    subst e
    have hko:env.kindOf n=some .cell:=hout
    rw [List.map_cons]
    simp [hk,hko]
   | false =>
    rw [hm] at h
    rw [List.map_cons]
    by_cases hc:(k == NameKind.free&&env.scope.kind == .function&&env.kindOf m == some .cell)=true
    ·rw [if_pos hc,List.lookup_cons,hm]
     exact ih h
    ·rw [if_neg hc,List.lookup_cons,hm]
     exact ih h
 exact go sc.names h
def cxComp(X:Cx)(xs:List Str)(capt:List Nat)(scope:Scope)(C:Addr)(s:Shared)(H:Hp)(ex:List Addr):Cx :=
 { X with N:=xs++capt.map (fun j=>X.N.getD j ""),s₀:=s,H₀:=H,env:=compEnvC scope (clOf X.env scope.names []) C X.env,outer:=X.stack,ex:=ex,fn:=fun _=>false,pn:=[] }
def PTs(X:Cx)(ifs:List Expr)(t:TT):Prop :=
 ∀ (pins:List (Addr×Obj)) (s:Shared) (σ:St) (H:Hp) (Q:Bool->Hp->Prop),Inv X pins σ H s->t σ H Q ->
  wpAny (model X.prog X.w) X.A (forIn ifs true fun c r=>if r=true then do let ok <-isTrue c X.env (eval c X.env);pure (ForInStep.yield ok) else pure (ForInStep.yield r)) (TP X pins σ Q) X.xe s
def tYes:TT:=fun _ H Q=>Q true H
theorem y_m{X:Cx}:PTs X [] tYes:=fun pins s σ H Q I h=>by
 show wpAny _ _ (pure true) _ _ _
 exact wpAny_pure ⟨H,I,h⟩
theorem p_s{prog:Program}{w:World}{A:Around}{R:Result->Shared->Prop}{s:Shared}{elt target iter:Expr}{ifs:List Expr}{scope:Scope}{pos:Pos}{it acc:Value}{env:Env}(I:Nat->Shared->Prop)
  (turn:∀ n s,I n s->wpAny (model prog w) A (pyNext it) (fun r s₁=>match r with
   | none=>R (.ok .next) s₁
   | some v=>wpAny (model prog w) A (letOwnedTupleGo target it v) (fun _ s₁'=>wpAny (model prog w) A (assign target env v) (fun _ s₂ =>
     wpAny (model prog w) A (forIn ifs true fun c r=>if r=true then do let ok <-isTrue c env (eval c env);pure (ForInStep.yield ok) else pure (ForInStep.yield r)) (fun ok s₃ =>
      if ok=true then wpAny (model prog w) A (eval elt env) (fun x s₄ =>
       wpAny (model prog w) A (call (.builtin "list.append") [acc,x]) (fun _ s₅=>∃ m,m<n/\I m s₅) (notedBy (model prog w) A env fun e s'=>R (.error e) s') s₄) (notedBy (model prog w) A env fun e s'=>R (.error e) s') s₃
      else ∃ m,m<n/\I m s₃) (notedBy (model prog w) A env fun e s'=>R (.error e) s') s₂) (notedBy (model prog w) A env fun e s'=>R (.error e) s') s₁') (notedBy (model prog w) A env fun e s'=>R (.error e) s') s₁) (notedBy (model prog w) A env fun e s'=>R (.error e) s') s)
  (n:Nat) (h:I n s):codeAny (model prog w) A (.compLoop (.ListComp elt [⟨target,iter,ifs,0⟩] scope pos) 0 it acc env) R s:=by
 refine codeAny_loop rfl I (fun n s hI=>?_) n h
 show wpAny _ A ((compTurn (.ListComp elt [⟨target,iter,ifs,0⟩] scope pos) 0 it acc env).onRaise (fun x=>do noteFrame x env;theTreesLotGoes x)) _ _ s
 refine wpAny_noted ?_
 rw [compTurn_list]
 refine wpAny_bind (wpAny_standAt (wpAny_bind (wpAny_mono (turn n s hI) (fun r s₁ h₁=>?_) fun _ _ h'=>h')))
 cases r with
 | none=>exact wpAny_pure h₁
 | some v =>
  refine wpAny_bind (wpAny_mono h₁ (fun _ s₁' h₁'=>?_) fun _ _ h'=>h')
  refine wpAny_bind (wpAny_mono h₁' (fun _ s₂ h₂=>wpAny_bind (wpAny_mono h₂ (fun ok s₃ h₃=>?_) fun _ _ h'=>h')) fun _ _ h'=>h')
  cases ok with
  | false=>exact wpAny_pure ⟨rfl,h₃⟩
  | true =>
   exact wpAny_bind (wpAny_bind (wpAny_mono h₃ (fun x s₄ h₄=>wpAny_bind (wpAny_mono h₄ (fun _ s₅ h₅=>wpAny_pure (wpAny_pure ⟨rfl,h₅⟩)) fun _ _ h'=>h')) fun _ _ h'=>h'))
section
variable {X:Cx} {pins:List (Addr×Obj)} {σ:St} {H H2:Hp} {s s2:Shared} {xs:List Str} {capt:List Nat} {scope:Scope} {fp:List Addr}
abbrev emptyL:Obj:={ cls:=.type "list",dict:=none,data:=.seq ([]:List Value).toArray }
theorem Inv.stk_lt(I:Inv X pins σ H s){b:Addr}(hb:s.heap.objs.size<=b):b∉frs X.stack:=fun z=>by
 rcases List.mem_cons.mp (I.stkSub b z) with e | e
 ·exact absurd (Nat.lt_of_lt_of_le I.lt hb) (by rw [e];exact Nat.lt_irrefl _)
 ·exact I.nofs hb e
theorem k_u(I:Inv X pins σ H2 s2)(ok:CompOk scope X.env.scope xs (capt.map fun j=>X.N.getD j ""))(hf:∀ b∈fp,FpOk X pins H2 b)(hfo:∀ b∈fp,∃ o,s2.heap.get? b=some o){HH:Heap}(eH:HH=s2.heap.push emptyL) :
  (cxComp X xs capt scope HH.objs.size { s2 with heap:=HH } H2 (s2.heap.objs.size::fp)).Ok:=by
 have hsz:HH.objs.size=s2.heap.objs.size+1:=by rw [eH,Heap.size_push]
 have look:∀ y c,(clOf X.env scope.names []).lookup y=some c->X.env.cells.lookup y=some c:=fun y c e=>by
  rw [x_n] at e
  split at e
  ·rename_i ha
   obtain ⟨p,hp,hq⟩:=List.any_eq_true.mp ha
   simp only [Bool.and_eq_true,beq_iff_eq] at hq
   obtain ⟨q1,q2⟩:=hq
   subst q1
   obtain ⟨c',hc'⟩:=I.ok.has p.1 (.inl (ok.free p.1 p.2 hp q2))
   rw [hc'] at e ⊢
   exact e
  ·cases e
 have keep:∀ b o,s2.heap.get? b=some o->HH.get? b=some o:=fun b o e=>by rw [eH];exact Heap.get?_push_of_some _ e
 refine ⟨I.ok.mod,ok.kind,I.ok.glob,I.ok.blt,Nat.le_refl _,fun y z c h1 h2=>I.ok.inj y z c (look y c h1) (look z c h2),fun y hy=>?_,(fun y c h _=>nomatch h),I.ok.hd,I.ok.frames,I.ok.gd,.inl rfl,fun b hb=>?_,fun b o e=>?_,?_,fun b o e hb=>?_,fun b hb=>?_,?_,fun b hb=>I.stkFree b hb⟩
 ·-- each cell's name has its cell
  have hy':(relabel scope X.env).names.lookup y=some .cell\/(relabel scope X.env).names.lookup y=some .free:=hy
  have inn:∀ (l:List (Str×NameKind)) (k:NameKind),(∀ p∈l,p.2 ≠ .cell)->(k = .cell\/k = .free) ->
    (l.map fun (p:Str×NameKind)=>if (p.2 == NameKind.free&&X.env.scope.kind == .function&&X.env.kindOf p.1 == some .cell)=true then (p.1,NameKind.cell) else (p.1,p.2)).lookup y=some k->∃ p∈l,p.1=y/\p.2 = .free:=by
   intro l k hnc hkk
   induction l with
   | nil=>intro h;simp at h
   | cons p r ih =>
    intro h
    obtain ⟨m,k'⟩:=p
    rw [List.map_cons] at h
    by_cases hc:(k' == NameKind.free&&X.env.scope.kind == .function&&X.env.kindOf m == some .cell)=true
    ·rw [if_pos hc,List.lookup_cons] at h
     have hfree:k' = .free:=by
      simp only [Bool.and_eq_true,beq_iff_eq] at hc
      exact hc.1.1
     cases hm:y == m with
     | true=>exact ⟨(m,k'),List.mem_cons_self,by simpa using Eq.symm (by simpa using hm),hfree⟩
     | false =>
      rw [hm] at h
      obtain ⟨p,hp,q⟩:=ih (fun p hp=>hnc p (List.mem_cons_of_mem _ hp)) h
      exact ⟨p,List.mem_cons_of_mem _ hp,q⟩
    ·rw [if_neg hc,List.lookup_cons] at h
     cases hm:y == m with
     | true =>
      rw [hm] at h
      cases h
      rcases hkk with z | z
      ·exact absurd z (hnc (m,k') List.mem_cons_self)
      ·exact ⟨(m,k'),List.mem_cons_self,by simpa using Eq.symm (by simpa using hm),z⟩
     | false =>
      rw [hm] at h
      obtain ⟨p,hp,q⟩:=ih (fun p hp=>hnc p (List.mem_cons_of_mem _ hp)) h
      exact ⟨p,List.mem_cons_of_mem _ hp,q⟩
  have hex:∃ p∈scope.names,p.1=y/\p.2 = .free:=by
   rcases hy' with h | h
   ·exact inn scope.names .cell ok.cell (.inl rfl) h
   ·exact inn scope.names .free ok.cell (.inr rfl) h
  obtain ⟨p,hp,q1,q2⟩:=hex
  refine ⟨_,(x_n (env:=X.env) scope.names []).trans (if_pos (List.any_eq_true.mpr ⟨p,hp,?_⟩))⟩
  simp [q1,q2]
 ·-- the records that turn are not the frame's
  rcases List.mem_cons.mp hb with z | z
  ·subst z
   refine ⟨Nat.ne_of_lt (show s2.heap.objs.size<HH.objs.size by lia),fun y c e q=>?_⟩
   obtain ⟨v,hv⟩:=I.cell y c (look y c e)
   have:=hv.lt
   rw [q] at this
   exact absurd this (Nat.lt_irrefl _)
  ·obtain ⟨o,ho⟩:=hfo b z
   exact ⟨Nat.ne_of_lt (Nat.lt_of_lt_of_le (Heap.lt_size ho) (show s2.heap.objs.size<=HH.objs.size by lia)),fun y c e=>(hf b z).2.2.2.2.1 y c (look y c e)⟩
 ·obtain ⟨h1,h2⟩:=I.bs b o e
  exact ⟨keep b o h1,h2⟩
 ·show X.base.objs.size<=HH.objs.size
  have h1:=I.ok.bsz
  have h2:=I.sz
  lia
 ·-- the base's objects do not turn
  have h0:=(I.bs b o e).1
  rcases List.mem_cons.mp hb with z | z
  ·subst z
   exact absurd (Heap.lt_size h0) (Nat.lt_irrefl _)
  ·rcases (hf b z).2.2.2.1 with q | q
   ·exact I.ok.noex b o e q
   ·have h1:=(I.ok.bs b o e).1
    exact absurd (Nat.lt_of_lt_of_le (Heap.lt_size h1) q) (Nat.lt_irrefl _)
 ·show b∉frs X.stack
  rcases List.mem_cons.mp hb with z | z
  ·subst z
   exact I.stk_lt (Nat.le_refl _)
  ·intro q
   rcases List.mem_cons.mp (I.stkSub b q) with e | e
   ·exact (hf b z).2.1 e
   ·exact (hf b z).2.2.1 e
 ·show HH.FunFrames X.base X.stack
  exact Heap.FunFrames.of_keeps (fun b o e _=>⟨o,keep b o e,rfl⟩) I.stack
theorem comp_inv(I:Inv X pins σ H2 s2)(ok:CompOk scope X.env.scope xs (capt.map fun j=>X.N.getD j ""))(hcap:∀ j∈capt,j<X.N.length)(hf:∀ b∈fp,FpOk X pins H2 b)(hfo:∀ b∈fp,∃ o,s2.heap.get? b=some o)
  {HH h1:Heap} {t:Nat} {m:Str->Option Value} {oc:Obj} (eH:HH=s2.heap.push emptyL) (hns:h1.Ns HH.objs.size m) (hsb:Heap.SameBut HH.objs.size (HH.push oc) h1) :
  Inv (cxComp X xs capt scope HH.objs.size { s2 with heap:=HH } H2 (s2.heap.objs.size::fp)) [(s2.heap.objs.size,emptyL)] (List.replicate xs.length none++capt.map fun j=>(σ[j]?).join) H2 { s2 with heap:=h1,toks:=t }:=by
 have hsz:HH.objs.size=s2.heap.objs.size+1:=by rw [eH,Heap.size_push]
 have look:∀ y c,(clOf X.env scope.names []).lookup y=some c->X.env.cells.lookup y=some c:=fun y c e=>by
  rw [x_n] at e
  split at e
  ·rename_i ha
   obtain ⟨p,hp,hq⟩:=List.any_eq_true.mp ha
   simp only [Bool.and_eq_true,beq_iff_eq] at hq
   obtain ⟨q1,q2⟩:=hq
   subst q1
   obtain ⟨c',hc'⟩:=I.ok.has p.1 (.inl (ok.free p.1 p.2 hp q2))
   rw [hc'] at e ⊢
   exact e
  ·cases e
 have keep0:∀ b o,HH.get? b=some o->h1.get? b=some o:=fun b o e=>hsb.extBut b o (Nat.ne_of_lt (Heap.lt_size e)) (Heap.get?_push_of_some _ e)
 have keep:∀ b o,s2.heap.get? b=some o->h1.get? b=some o:=fun b o e=>keep0 b o (by rw [eH];exact Heap.get?_push_of_some _ e)
 have hD:h1.get? s2.heap.objs.size=some emptyL:=keep0 _ _ (by rw [eH];exact Heap.get?_push_size _ rfl)
 refine ⟨k_u I ok hf hfo eH,rfl,I.bare,Un.kept keep0,⟨m,hns,fun i y v h1' h2 h3=>?_⟩,fun y c e=>?_,I.hok.fresh (show s2.heap.objs.size<=HH.objs.size by lia),fun y c e=>I.freeC y c (look y c e),fun p hp=>?_,I.hok.kept keep,?_⟩
 ·by_cases hi:i<xs.length
  ·have h2':(List.replicate xs.length (none:Option V))[i]? = some (some v):=by
    rw [<-List.getElem?_append_left (l₂:=capt.map fun j=>(σ[j]?).join) (by simpa using hi)]
    exact h2
   rw [List.getElem?_replicate_of_lt hi] at h2'
   cases h2'
  ·have h1'':(capt.map fun j=>X.N.getD j "")[i-xs.length]? = some y:=by
    rw [<-List.getElem?_append_right (l₁:=xs) (by lia)]
    exact h1'
   have h2':(capt.map fun j=>(σ[j]?).join)[i-xs.length]? = some (some v):=by
    have q:=List.getElem?_append_right (l₁:=List.replicate xs.length (none:Option V)) (l₂:=capt.map fun j=>(σ[j]?).join) (i:=i) (by simpa using hi)
    rw [List.length_replicate] at q
    rw [<-q]
    exact h2
   rw [List.getElem?_map] at h1'' h2'
   cases hj:capt[i-xs.length]? with
   | none=>rw [hj] at h1'';cases h1''
   | some j =>
    rw [hj] at h1'' h2'
    have ey:X.N.getD j "" = y:=by simpa using h1''
    have ev:(σ[j]?).join=some v:=by simpa using h2'
    have hjm:j∈capt:=List.mem_of_getElem? hj
    have hjl:=hcap j hjm
    have hN:X.N[j]? = some y:=by
     rw [List.getD_eq_getElem?_getD,List.getElem?_eq_getElem hjl] at ey
     rw [List.getElem?_eq_getElem hjl]
     simpa using ey
    have hσ:σ[j]? = some (some v):=by
     cases e:σ[j]? with
     | none=>rw [e] at ev;cases ev
     | some o=>rw [e] at ev;have ev':o=some v:=ev;rw [ev']
    have hfr:scope.names.lookup y=some .free:=ok.cs y (List.mem_map.mpr ⟨j,hjm,ey⟩)
    have hout:X.env.scope.names.lookup y=some .cell:=ok.free y .free (PySem.mem_of_lookup hfr) rfl
    obtain ⟨mX,_,hl⟩:=I.loc
    obtain ⟨u,ru,lk⟩:=hl j y v hN hσ (.inr (.inl hout))
    refine ⟨u,ru,?_⟩
    have hko:X.env.kindOf y=some .cell:=hout
    rcases lk with ⟨z,_⟩ | ⟨_,c,hc,hcell⟩
    ·rw [hko] at z;cases z
    ·refine .inr ⟨.inl (o_j ok.okind hout hfr),c,?_,hcell.keeps keep⟩
     show (clOf X.env scope.names []).lookup y=some c
     rw [x_n,if_pos (List.any_eq_true.mpr ⟨(y,.free),PySem.mem_of_lookup hfr,by simp⟩),hc]
     rfl
 ·obtain ⟨v,hv⟩:=I.cell y c (look y c e)
  exact ⟨v,hv.keeps keep⟩
 ·have hp':p=(s2.heap.objs.size,emptyL):=by simpa [cxComp] using hp
  subst hp'
  refine ⟨hD,I.hok.fresh (Nat.le_refl _),Nat.ne_of_lt (show s2.heap.objs.size<HH.objs.size by lia),I.stk_lt (Nat.le_refl _),fun v z=>by cases z⟩
 ·show _=(xs++capt.map fun j=>X.N.getD j "").length
  simp
def CompG(J:It)(n:Nat)(c:St)(g:TG)(tt:TT)(te:TE)(H1:Hp)(Fin:List V->Hp->Prop):Prop :=
 ∃ W:Nat->Nat->List V->Hp->Prop,(∃ m,W 0 m [] H1)/\∀ i m ys H,W i m ys H->(J.stop i H/\Fin ys H) \/
  (J.go i H/\ys.length<sizeLine/\∃ N:List V->Hp->Prop,(∀ ys' H',N ys' H'->∃ m',m'<m/\W (i+1) m' ys' H') /\
   ∀ x H',J.yld i H x H'->∀ os:St,os.length=n->g x (os++c) H' fun σ1 H1=>tt σ1 H1 fun b H2=>if b=true then te σ1 H2 fun y H3=>N (ys++[y]) H3 else N ys H2)
def tCompG(n:Nat)(g:TG)(capt:List Nat)(wi:TI)(tt:TT)(te:TE):TE:=fun σ H Q=>wi σ H fun J H1 =>
 CompG J n (capt.map fun j=>(σ[j]?).join) g tt te H1 fun ys H=>∀ l,H l=none->Q (.ref l) (upd H l (.lst ys))
def Shp(n:Nat)(g:TG):Prop:=∀ v (os c:St) H Q,os.length=n->g v (os++c) H Q->g v (os++c) H fun σ' H'=>(∃ os':St,os'.length=n/\σ'=os'++c)/\Q σ' H'
def CompW(J:It)(S:V->St)(tt:TT)(te:TE)(H1:Hp)(Fin:List V->Hp->Prop):Prop :=
 ∃ W:Nat->Nat->List V->Hp->Prop,(∃ m,W 0 m [] H1)/\∀ i m ys H,W i m ys H->(J.stop i H/\Fin ys H) \/
  (J.go i H/\ys.length<sizeLine/\∃ N:List V->Hp->Prop,(∀ ys' H',N ys' H'->∃ m',m'<m/\W (i+1) m' ys' H') /\
   ∀ x H',J.yld i H x H'->tt (S x) H' fun b H2=>if b=true then te (S x) H2 fun y H3=>N (ys++[y]) H3 else N ys H2)
def tComp(capt:List Nat)(wi:TI)(tt:TT)(te:TE):TE:=fun σ H Q=>wi σ H fun J H1 =>
 CompW J (fun x=>some x::capt.map fun j=>(σ[j]?).join) tt te H1 fun ys H=>∀ l,H l=none->Q (.ref l) (upd H l (.lst ys))
theorem CompW.g{J:It}{c:St}{tt:TT}{te:TE}{H:Hp}{Fin:List V->Hp->Prop}(h:CompW J (fun x=>some x::c) tt te H Fin):CompG J 1 c (gName 0) tt te H Fin:=by
 obtain ⟨W,w0,st⟩:=h
 refine ⟨W,w0,fun i m ys H w=>?_⟩
 rcases st i m ys H w with q | ⟨go,hl,N,hN,step⟩
 ·exact .inl q
 ·refine .inr ⟨go,hl,N,hN,fun x H' y os hos=>?_⟩
  obtain ⟨o,rfl⟩:=List.length_eq_one_iff.mp hos
  exact step x H' y
theorem m_w:Shp 1 (gName 0):=fun v os c H Q hos h=>by
 obtain ⟨o,rfl⟩:=List.length_eq_one_iff.mp hos
 exact ⟨⟨[some v],rfl,rfl⟩,h⟩
theorem shp_tup2{K:PySem.W.Frag}:Shp 2 (gTup K 2 (gCons (gName 0) (gCons (gName 1) gNil))):=fun v os c H Q hos h=>by
 match os,hos with
 | [a,b],_ =>
 obtain ⟨p,xs,rfl,hp,hl,v1,r1,rfl,v2,r2,rfl,rfl,q⟩:=h
 exact ⟨p,_,rfl,hp,hl,v1,_,rfl,v2,_,rfl,rfl,⟨[some v1,some v2],rfl,rfl⟩,q⟩
theorem HOk.track{P:Program}{w:World}{H:Hp}{h:Heap}{a:Addr}{o:HO}(k:HOk P w H h)(n:H a=none)(new:ObjOk P w (upd H a o) h a o):HOk P w (upd H a o) h:=fun b u e=>by
 by_cases hb:b=a
 ·subst hb;rw [z_c] at e;cases e;exact new
 ·rw [y_a hb] at e
  exact (k b u e).stay (fun _ _ _ q=>q) (fun c q=>by rw [y_a (z_r q n)];exact q) (fun c xs q=>by rw [y_a (z_r q n)];exact q) fun c ob xs q=>by rw [y_a (z_r q n)];exact q
theorem s_c{elt iter tg:Expr}{g:TG}{ifs:List Expr}{pos:Pos}{tt:TT}{te:TE}{it:Addr}{tn:Nat->Heap->Prop}{J:It}{RR:Value->Addr->Result->Shared->Prop}
  (hx0:∀ e s,¬X.xe e s) (hc:X.calm=true) (ok:CompOk scope X.env.scope xs (capt.map fun j=>X.N.getD j "")) (hcap:∀ j∈capt,j<X.N.length) (hG:∀ C s H ex,PG (cxComp X xs capt scope C s H ex) tg g) (hgs:Shp xs.length g)
  (hT:∀ C s H ex,PTs (cxComp X xs capt scope C s H ex) ifs tt) (hE:∀ C s H ex,PE (cxComp X xs capt scope C s H ex) elt te)
  (I2:Inv X pins σ H2 s2) (T:Turn X.prog X.w X.K tg J fp it tn) (st2:tn 0 s2.heap) (f2:∀ b∈fp,FpOk X pins H2 b)
  (Fin:List V->Hp->Prop) (hW:CompG J xs.length (capt.map fun j=>(σ[j]?).join) g tt te H2 Fin)
  (hRR:∀ D C s' ys H' oc,H' D=none->Fin ys H'->Inv X pins σ (upd H' D (.lst ys)) s'->s'.heap.get? C=some oc->(∃ m,s'.heap.Ns C m)->C≠D->H' C=none->C≠X.env.locals->C∉frs X.stack->X.s₀.heap.objs.size<=C->(∀ y c,X.env.cells.lookup y=some c->c≠C)->(∀ p∈X.pn++pins,p.1≠C) ->
   (∀ v,oc.data ≠ .cell v)->RR (.ref D) C (.ok .next) s') :
  wpAny (model X.prog X.w) X.A (newList []) (fun acc s₃=>wpAny (model X.prog X.w) X.A (newFunctionEnv scope X.env.globals (clOf X.env scope.names []) [] X.env.qual none .none (some X.env)) (fun cenv s₄ =>
   codeAny (model X.prog X.w) X.A (.compStart (.ListComp elt [⟨tg,iter,ifs,0⟩] scope pos) 0 (.ref it) acc { cenv with scope:=relabel scope X.env }) (RR acc cenv.locals) s₄) X.xe s₃) X.xe s2:=by
 refine wpAny_newObj_type (wpAny_newFunctionEnv ok.cell (by intro y hy;simp at hy) (fun h1 hns hsb=>?_) ok.kind)
 dsimp only at hns hsb ⊢
 generalize eH:s2.heap.push { cls:=.type "list",dict:=none,data:=.seq ([]:List Value).toArray }=HH at hns hsb ⊢
 have eH':HH=s2.heap.push emptyL:=eH.symm
 have hsz:HH.objs.size=s2.heap.objs.size+1:=by rw [eH',Heap.size_push]
 have hfo:∀ b∈fp,∃ o,s2.heap.get? b=some o:=fun b hb=>let ⟨o,ho,_⟩:=T.obj 0 _ st2 b hb;⟨o,ho⟩
 have flt:∀ b∈fp,b<s2.heap.objs.size:=fun b hb=>let ⟨o,ho⟩:=hfo b hb;Heap.lt_size ho
 have keep1:∀ b o,s2.heap.get? b=some o->h1.get? b=some o:=fun b o e =>
  hsb.extBut b o (Nat.ne_of_lt (Nat.lt_of_lt_of_le (Heap.lt_size e) (show s2.heap.objs.size<=HH.objs.size by lia))) (Heap.get?_push_of_some _ (by rw [eH'];exact Heap.get?_push_of_some _ e))
 have I4:=comp_inv (t:=s2.toks+([]:List (Str×Value)).length) I2 ok hcap f2 hfo eH' hns hsb
 have st4:tn 0 h1:=T.keep 0 _ _ st2 fun b _ o e=>keep1 b o e
 obtain ⟨W,⟨m0,w0⟩,turn⟩:=hW
 generalize hX:cxComp X xs capt scope HH.objs.size { s2 with heap:=HH } H2 (s2.heap.objs.size::fp)=Y at I4
 have eProg:Y.prog=X.prog:=by rw [<-hX];rfl
 have eW:Y.w=X.w:=by rw [<-hX];rfl
 have eK:Y.K=X.K:=by rw [<-hX];rfl
 have eA:Y.A=X.A:=by rw [<-hX];rfl
 have eEnv:Y.env=compEnvC scope (clOf X.env scope.names []) HH.objs.size X.env:=by rw [<-hX];rfl
 have eXe:Y.xe=X.xe:=by rw [<-hX];rfl
 have eCalm:Y.calm=true:=by rw [<-hX];exact hc
 have ePn:Y.pn=[]:=by rw [<-hX];rfl
 have eEx:Y.ex=s2.heap.objs.size::fp:=by rw [<-hX];rfl
 have eFs:Y.fs=frs X.stack:=by rw [<-hX];rfl
 have hT':PTs Y ifs tt:=by rw [<-hX];exact hT _ _ _ _
 have hE':PE Y elt te:=by rw [<-hX];exact hE _ _ _ _
 have hG':PG Y tg g:=by rw [<-hX];exact hG _ _ _ _
 have eH0:Y.H₀=H2:=by rw [<-hX];rfl
 have eS0:Y.s₀={ s2 with heap:=HH }:=by rw [<-hX];rfl
 have eL:Y.env.locals=HH.objs.size:=by rw [eEnv];rfl
 have ecl:Y.env.cells=clOf X.env scope.names []:=by rw [eEnv];rfl
 have look:∀ y c,(clOf X.env scope.names []).lookup y=some c->X.env.cells.lookup y=some c:=fun y c e=>by
  rw [x_n] at e
  split at e
  ·rename_i ha
   obtain ⟨p,hp,hq⟩:=List.any_eq_true.mp ha
   simp only [Bool.and_eq_true,beq_iff_eq] at hq
   obtain ⟨q1,q2⟩:=hq
   subst q1
   obtain ⟨c',hc'⟩:=I2.ok.has p.1 (.inl (ok.free p.1 p.2 hp q2))
   rw [hc'] at e ⊢
   exact e
  ·cases e
 have fpOk:∀ {pins':List (Addr×Obj)} {H':Hp},(∀ b∈fp,H' b=none)->(∀ p∈pins',p.1∉fp)->∀ b∈fp,FpOk Y pins' H' b:=fun {pins' H'} hn hp b hb=>by
  have hlt:=flt b hb
  refine ⟨hn b hb,by rw [eL];exact Nat.ne_of_lt (Nat.lt_of_lt_of_le hlt (show s2.heap.objs.size<=HH.objs.size by lia)),?_,.inl (by rw [eEx];exact List.mem_cons_of_mem _ hb),fun y c e=>(f2 b hb).2.2.2.2.1 y c (look y c (by rw [<-ecl];exact e)),fun p hpp z=>?_⟩
  ·rw [eFs]
   intro q
   rcases List.mem_cons.mp (I2.stkSub b q) with e | e
   ·exact (f2 b hb).2.1 e
   ·exact (f2 b hb).2.2.1 e
  ·rw [ePn,List.nil_append] at hpp
   exact hp p hpp (by rw [z];exact hb)
 have Dnf:s2.heap.objs.size∉fp:=fun z=>absurd (flt _ z) (Nat.lt_irrefl _)
 have loop:codeAny (model X.prog X.w) X.A (.compLoop (.ListComp elt [⟨tg,iter,ifs,0⟩] scope pos) 0 (.ref it) (.ref s2.heap.objs.size) Y.env) (RR (.ref s2.heap.objs.size) HH.objs.size) { s2 with heap:=h1,toks:=s2.toks+([]:List (Str×Value)).length }:=by
  refine p_s (fun n s'=>∃ i ys its k os H',Inv Y [(s2.heap.objs.size,{ cls:=.type "list",data:=.seq its.toArray k })] (os++capt.map fun j=>(σ[j]?).join) H' s'/\os.length=xs.length/\Vals ys its/\ys.length<=sizeLine/\tn i s'.heap/\(∀ b∈fp,H' b=none)/\W i n ys H') ?_ m0
   ⟨0,[],[],0,_,H2,I4,List.length_replicate,.nil,Nat.zero_le _,st4,fun b hb=>(f2 b hb).1,w0⟩
  rintro n s3 ⟨i,ys,its,k,os,H3,I3,hos,rv,hys,st3,fr3,w3⟩
  have noErr:∀ {e:Value} {s:Shared},X.xe e s->notedBy (model X.prog X.w) X.A Y.env (fun e s'=>RR (.ref s2.heap.objs.size) HH.objs.size (.error e) s') e s:=fun {e s} z=>(hx0 e s z).elim
  have pinD:=I3.pin (s2.heap.objs.size,{ cls:=.type "list",data:=.seq its.toArray k }) (by simp)
  have fp3:=fpOk (pins':=[(s2.heap.objs.size,{ cls:=.type "list",data:=.seq its.toArray k })]) fr3 (by simpa using Dnf)
  rcases turn i n ys H3 w3 with ⟨stop,fin⟩ | ⟨go,hlt,N,hN,step⟩
  ·-- it stops
   have d:=T.done Y eProg eW eK eCalm i _ s3 _ H3 X.xe I3 fp3 st3 stop
   rw [eA] at d
   refine wpAny_mono d (fun r s4 ⟨hr,I4'⟩=>?_) fun e s z=>noErr z
   subst hr
   show RR (.ref s2.heap.objs.size) HH.objs.size (.ok .next) s4
   have pinD4:=I4'.pin (s2.heap.objs.size,{ cls:=.type "list",data:=.seq its.toArray k }) (by simp)
   obtain ⟨mC,nsC,_⟩:=I4'.loc
   rw [eL] at nsC
   obtain ⟨oC,esC,epC,hoC,hdC,_⟩:=id nsC
   have base4:=I4'.base
   rw [eFs,eEx,eH0,eS0] at base4
   have hCn:H3 HH.objs.size=none:=by rw [<-eL];exact I4'.free
   refine hRR s2.heap.objs.size HH.objs.size s4 ys H3 oC pinD4.2.1 fin ?_ hoC ⟨mC,nsC⟩ (Nat.ne_of_gt (show s2.heap.objs.size<HH.objs.size by lia)) hCn (Nat.ne_of_gt (Nat.lt_of_lt_of_le I2.lt (show s2.heap.objs.size<=HH.objs.size by lia))) (I2.stk_lt (by lia)) (by have:=I2.sz;lia) (fun y c e z=>?_) (fun p hp z=>?_) (fun v z=>by rw [hdC] at z;cases z)
   ·have hok4:=I4'.hok
    rw [eProg,eW] at hok4
    have hbl:∀ b ob,s2.heap.get? b=some ob->b∉fp->HH.get? b=some ob/\b∉s2.heap.objs.size::fp:=fun b ob e hm =>
     ⟨by rw [eH'];exact Heap.get?_push_of_some _ e,fun z=>(List.mem_cons.mp z).elim (fun q=>absurd (Heap.lt_size e) (by rw [q];exact Nat.lt_irrefl _)) hm⟩
    refine I2.call' (ch:=fp) (by rw [I4'.os,eS0]) ⟨fun b ob e nn hb hx=>?_,fun b ob e nn hb hx=>?_,fun b ob e nn hx=>?_,fun b ob e hx=>?_,fun b xs e=>?_,fun b ob u e=>?_,fun b pp qq e=>?_⟩ (HOk.track hok4 pinD4.2.1 ⟨hys,its,k,rv,pinD4.1⟩) I4'.bare fun b hb=>⟨(f2 b hb).2.2.2.1,(f2 b hb).2.1,(f2 b hb).2.2.2.2.1,(f2 b hb).2.2.2.2.2⟩
    ·obtain ⟨h1',h2'⟩:=hbl b ob e hx
     exact base4.keep b ob h1' nn hb h2'
    ·obtain ⟨h1',h2'⟩:=hbl b ob e hx
     exact base4.slot b ob h1' nn hb h2'
    ·obtain ⟨h1',h2'⟩:=hbl b ob e hx
     rw [y_a (Nat.ne_of_lt (Heap.lt_size e))]
     exact base4.free b ob h1' nn h2'
    ·obtain ⟨h1',h2'⟩:=hbl b ob e hx
     exact base4.there b ob h1' h2'
    ·have q:=base4.tups b xs e
     rw [y_a (z_r q pinD4.2.1)]
     exact q
    ·have q:=base4.frzs b ob u e
     rw [y_a (z_r q pinD4.2.1)]
     exact q
    ·have q:=base4.tbls b pp qq e
     rw [y_a (z_r q pinD4.2.1)]
     exact q
   ·obtain ⟨v,hv⟩:=I2.cell y c e
    have:=hv.lt
    rw [z] at this
    exact absurd this (Nat.not_lt.mpr (show s2.heap.objs.size<=HH.objs.size by lia))
   ·have:=Heap.lt_size (I2.pin p hp).1
    rw [z] at this
    exact absurd this (Nat.not_lt.mpr (show s2.heap.objs.size<=HH.objs.size by lia))
  ·-- one turn
   have d:=T.item Y eProg eW eK eCalm i _ s3 _ H3 X.xe I3 fp3 st3 go
   rw [eA] at d
   refine wpAny_mono d (fun r s4 ⟨u,hr,h4⟩=>?_) fun e s z=>noErr z
   subst hr
   refine wpAny_mono h4 (fun _ s5 ⟨v,H5,I5,r5,y5,st5,fr5⟩=>?_) fun e s z=>noErr z
   have fp5:=fpOk (pins':=[(s2.heap.objs.size,{ cls:=.type "list",data:=.seq its.toArray k })]) fr5 (by simpa using Dnf)
   have I5':=I5.pinned fp5 (T.obj _ _ st5)
   have pg':=hG' _ s5 _ H5 v u _ I5' r5 (hgs v os _ H5 _ hos (step v H5 y5 os hos))
   rw [eProg,eW,eA,eXe] at pg'
   refine wpAny_mono pg' (fun _ s6 ⟨σ6,H6,I6,⟨os6,hos6,e6⟩,q6⟩=>?_) fun e s z=>noErr z
   subst e6
   have t6:=hT' _ s6 _ H6 _ I6 q6
   rw [eProg,eW,eA,eXe] at t6
   refine wpAny_mono t6 (fun b s7 ⟨H7,I7,q7⟩=>?_) fun e s z=>noErr z
   have ntn:∀ {σ':St} {H':Hp} {s':Shared},Inv Y ([(s2.heap.objs.size,{ cls:=.type "list",data:=.seq its.toArray k })]++pinsAt fp s5.heap) σ' H' s'->tn (i+1) s'.heap/\∀ b∈fp,H' b=none:=fun {σ' H' s'} J'=>by
    refine ⟨T.keep _ _ _ st5 fun b hb o e=>(J'.pin (b,o) (List.mem_append_right _ (List.mem_append_right _ (u_z hb e)))).1,fun b hb=>?_⟩
    obtain ⟨o,e,_⟩:=T.obj _ _ st5 b hb
    exact (J'.pin (b,o) (List.mem_append_right _ (List.mem_append_right _ (u_z hb e)))).2.1
   cases b with
   | false =>
    rw [if_neg Bool.false_ne_true] at q7
    obtain ⟨m',hm,w7⟩:=hN _ _ q7
    rw [if_neg Bool.false_ne_true]
    exact ⟨m',hm,i+1,ys,its,k,os6,H7,I7.unpinned,hos6,rv,hys,(ntn I7).1,(ntn I7).2,w7⟩
   | true =>
    rw [if_pos rfl] at q7
    rw [if_pos rfl]
    have e7:=hE' _ s7 _ H7 _ I7 q7
    rw [eProg,eW,eA,eXe] at e7
    refine wpAny_mono e7 (fun uy s8 ⟨y,H8,I8,r8,n8⟩=>?_) fun e s z=>noErr z
    obtain ⟨m',hm,w8⟩:=hN _ _ n8
    have pin8:=I8.pin (s2.heap.objs.size,{ cls:=.type "list",data:=.seq its.toArray k }) (by simp)
    have hlen:ys.length=its.length:=rv.length
    refine wpAny_list_append_plain (hsz:=by rw [List.size_toArray];lia) ⟨k,pin8.1⟩ fun h9 ⟨k9,hl9⟩ hs9=>?_
    have hk9:∀ b o,b≠s2.heap.objs.size->s8.heap.get? b=some o->h9.get? b=some o:=fun b o hb e=>(hs9.2 b hb).trans e
    have I8u:Inv Y (pinsAt fp s5.heap) (os6++capt.map fun j=>(σ[j]?).join) H8 s8:=I8.pins_of fun p hp=>I8.pin p (List.mem_append_right _ (List.mem_append_right _ hp))
    have I9:Inv Y (pinsAt fp s5.heap) (os6++capt.map fun j=>(σ[j]?).join) H8 { s8 with heap:=h9,toks:=s8.toks }:=I8u.turned (it:=s2.heap.objs.size) hk9 pin8.2.1 (by rw [eL];exact Nat.ne_of_lt (show s2.heap.objs.size<HH.objs.size by lia)) (.inl (by rw [eEx];exact List.mem_cons_self))
     (fun y c e z=>by
      rw [ecl] at e
      obtain ⟨v',hv⟩:=I2.cell y c (look y c e)
      have:=hv.lt
      rw [z] at this
      exact absurd this (Nat.lt_irrefl _))
     (fun p hp z=>by
      rw [ePn,List.nil_append] at hp
      exact Dnf (by rw [<-z];exact (p_v hp).1))
    have hl9':h9.get? s2.heap.objs.size=some { cls:=.type "list",data:=.seq (its++[uy]).toArray k9 }:=by
     rw [hl9];simp
    refine ⟨m',hm,i+1,ys++[y],its++[uy],k9,os6,H8,I9.pins_of fun p hp=>?_,hos6,rv.append (.cons r8 .nil),?_,?_,(ntn I8).2,w8⟩
    ·have hp':p=(s2.heap.objs.size,{ cls:=.type "list",data:=.seq (its++[uy]).toArray k9 }):=by simpa using hp
     subst hp'
     exact ⟨hl9',pin8.2.1,pin8.2.2.1,pin8.2.2.2.1,fun v z=>by cases z⟩
    ·rw [List.length_append,List.length_singleton];lia
    ·refine T.keep _ _ _ (ntn I8).1 fun b hb o e=>hk9 b o (fun z=>Dnf (by rw [<-z];exact hb)) e
 rw [eEnv] at loop
 refine codeAny_compStart_list ?_ ?_
 ·exact loop
 ·exact T.self _ 0 _ _ _ st4 loop
theorem pe_compG{elt iter tg:Expr}{g:TG}{ifs:List Expr}{pos:Pos}{wi:TI}{tt:TT}{te:TE}(xs:List Str)(capt:List Nat)
  (hx0:∀ e s,¬X.xe e s) (hc:X.calm=true) (hi:PI X tg iter wi) (hG:∀ C s H ex,PG (cxComp X xs capt scope C s H ex) tg g) (hgs:Shp xs.length g)
  (hT:∀ C s H ex,PTs (cxComp X xs capt scope C s H ex) ifs tt) (hE:∀ C s H ex,PE (cxComp X xs capt scope C s H ex) elt te)
  (hk:compOk scope X.env.scope xs (capt.map fun j=>X.N.getD j "")=true) (hcap:∀ j∈capt,j<X.N.length)
  (hs:∀ y,foldedSetIterable iter X.env y=pure y:=by intro _;rfl):PE X (.ListComp elt [⟨tg,iter,ifs,0⟩] scope pos) (tCompG xs.length g capt wi tt te):=by
 intro pins s σ H Q I h
 have ok:=compOk.mk hk
 rw [eval_ListComp]
 refine wpAny_comprehension_free (use:=none) (cl:=clOf X.env scope.names []) rfl hs (u_j fun n k hm hf=>?_) ok.kind ok.names (thn (hi pins s σ H _ I h) fun xv s1 h1=>thn h1 fun itv s2 h2=>?_)
 ·obtain ⟨c,e⟩:=I.ok.has n (.inl (ok.free n k hm (by simpa using hf)))
  rw [e];rfl
 ·obtain ⟨it,fp,tn,J,H2,e,I2,T,st2,f2,hW⟩:=h2
  subst e
  refine s_c (RR:=fun acc C=>compPost (model X.prog X.w) X.A X.xe none (EP X pins σ Q) acc C) hx0 hc ok hcap hG hgs hT hE I2 T st2 f2 (fun ys H=>∀ l,H l=none->Q (.ref l) (upd H l (.lst ys))) hW ?_
  intro D C s' ys H' oc hD fin I' hC ⟨m,hns⟩ hCD hCn hL _ hsz hcl hpn _
  refine ⟨m,hns,fun h' hsb=>⟨.ref D,_,I'.turned (t':=s'.toks) (it:=C) (fun b o hb e=>(hsb.2 b hb).trans e) (by rw [y_a hCD];exact hCn) hL (.inr hsz) hcl hpn,rfl,fin D hD⟩⟩
theorem y_o{elt iter:Expr}{x:Str}{px:Pos}{ifs:List Expr}{pos:Pos}{wi:TI}{tt:TT}{te:TE}(capt:List Nat)
  (hx0:∀ e s,¬X.xe e s) (hc:X.calm=true) (hi:PI X (.Name x px) iter wi)
  (hT:∀ C s H ex,PTs (cxComp X [x] capt scope C s H ex) ifs tt) (hE:∀ C s H ex,PE (cxComp X [x] capt scope C s H ex) elt te)
  (hk:compOk scope X.env.scope [x] (capt.map fun j=>X.N.getD j "")=true) (hcap:∀ j∈capt,j<X.N.length) (hnd:(x::capt.map fun j=>X.N.getD j "").Nodup)
  (hs:∀ y,foldedSetIterable iter X.env y=pure y:=by intro _;rfl):PE X (.ListComp elt [⟨.Name x px,iter,ifs,0⟩] scope pos) (tComp capt wi tt te):=by
 intro pins s σ H Q I h
 have ok:=compOk.mk hk
 rw [eval_ListComp]
 refine wpAny_comprehension_free (use:=none) (cl:=clOf X.env scope.names []) rfl hs (u_j fun n k hm hf=>?_) ok.kind ok.names (thn (hi pins s σ H _ I h) fun xv s1 h1=>thn h1 fun itv s2 h2=>?_)
 ·obtain ⟨c,e⟩:=I.ok.has n (.inl (ok.free n k hm (by simpa using hf)))
  rw [e];rfl
 ·obtain ⟨it,fp,tn,J,H2,e,I2,T,st2,f2,hW⟩:=h2
  subst e
  refine s_c (RR:=fun acc C=>compPost (model X.prog X.w) X.A X.xe none (EP X pins σ Q) acc C) hx0 hc ok hcap (xs:=[x]) (g:=gName 0) (fun C s H ex=>y_g hnd rfl (.inl (lookup_relabel_local (ok.x x (by simp)))) (.inr (lookup_relabel_local (ok.x x (by simp))))) m_w hT hE I2 T st2 f2 (fun ys H=>∀ l,H l=none->Q (.ref l) (upd H l (.lst ys))) hW.g ?_
  intro D C s' ys H' oc hD fin I' hC ⟨m,hns⟩ hCD hCn hL _ hsz hcl hpn _
  refine ⟨m,hns,fun h' hsb=>⟨.ref D,_,I'.turned (t':=s'.toks) (it:=C) (fun b o hb e=>(hsb.2 b hb).trans e) (by rw [y_a hCD];exact hCn) hL (.inr hsz) hcl hpn,rfl,fin D hD⟩⟩
theorem ps_comp{elt iter:Expr}{x:Str}{px:Pos}{py:Pos}{ifs:List Expr}{pos spos:Pos}{wi:TI}{tt:TT}{te:TE}{i:Nat}{y:Str}(capt:List Nat)
  (hN:X.N.Nodup) (hiy:X.N[i]? = some y) (hy:Loc X.env.scope y)
  (hx0:∀ e s,¬X.xe e s) (hc:X.calm=true) (hi:PI X (.Name x px) iter wi)
  (hT:∀ C s H ex,PTs (cxComp X [x] capt scope C s H ex) ifs tt) (hE:∀ C s H ex,PE (cxComp X [x] capt scope C s H ex) elt te)
  (hk:compOk scope X.env.scope [x] (capt.map fun j=>X.N.getD j "")=true) (hcap:∀ j∈capt,j<X.N.length) (hnd:(x::capt.map fun j=>X.N.getD j "").Nodup)
  (hsw:swapsWith (.ListComp elt [⟨.Name x px,iter,ifs,0⟩] scope pos) (some (.Name y py)) spos.line X.env=pure true)
  (hs:∀ y,foldedSetIterable iter X.env y=pure y:=by intro _;rfl) (hf:X.fn y=true\/X.env.scope.names.lookup y=some .local:=by first | exact .inl rfl | exact .inr rfl | assumption) :
  PS X (.Assign [.Name y py] (.ListComp elt [⟨.Name x px,iter,ifs,0⟩] scope pos) spos) (tAsg (tComp capt wi tt te) (gName i)):=by
 intro pins s σ H D0 I h
 have ok:=compOk.mk hk
 rw [exec_Assign_Name_used _ _ _ _ hsw]
 refine wpAny_bind (wpAny_standAt (wpAny_bind ?_))
 show wpAny _ X.A (do let _ <-comprehension (.ListComp elt [⟨.Name x px,iter,ifs,0⟩] scope pos) scope X.env _ (newList []) false (eval iter X.env) (some (assign (.Name y py) X.env))) _ _ s
 refine wpAny_bind (wpAny_mono (wpAny_comprehension_free (use:=some (assign (.Name y py) X.env)) (cl:=clOf X.env scope.names []) (Q:=fun _ s'=>SP X pins D0 .next s') rfl hs (u_j fun n k hm hf=>?_) ok.kind ok.names (thn (hi pins s σ H _ I h) fun xv s1 h1=>thn h1 fun itv s2 h2=>?_))
  (fun _ s' hq=>wpAny_pure (wpAny_pure hq)) fun _ _ e=>e)
 ·obtain ⟨c,e⟩:=I.ok.has n (.inl (ok.free n k hm (by simpa using hf)))
  rw [e];rfl
 ·obtain ⟨it,fp,tn,J,H2,e,I2,T,st2,f2,hW⟩:=h2
  subst e
  refine s_c (RR:=fun acc C=>compPost (model X.prog X.w) X.A X.xe (some (assign (.Name y py) X.env)) (fun _ s'=>SP X pins D0 .next s') acc C) hx0 hc ok hcap (xs:=[x]) (g:=gName 0) (fun C s H ex=>y_g hnd rfl (.inl (lookup_relabel_local (ok.x x (by simp)))) (.inr (lookup_relabel_local (ok.x x (by simp))))) m_w hT hE I2 T st2 f2 (fun ys H=>∀ l,H l=none->gName i (.ref l) σ (upd H l (.lst ys)) D0.nx) hW.g ?_
  intro D C s' ys H' oc hD fin I' hC ⟨m,hns⟩ hCD hCn hL hst hsz hcl hpn hnc
  show wpAny _ _ (assign (.Name y py) X.env (.ref D)) _ _ s'
  have hCf:C∉X.fs:=fun z=>by
   rcases I'.ok.stk with e | ⟨e,_⟩
   ·exact hst (by rw [e];exact z)
   ·refine hst ?_
    rw [e]
    unfold frs
    rw [List.filterMap_cons]
    split
    ·exact z
    ·exact List.mem_cons_of_mem _ z
  have Ip:Inv X (pins++[(C,oc)]) σ (upd H' D (.lst ys)) s':=I'.pins_of fun p hp=>(List.mem_append.mp hp).elim (fun z=>I'.pin p (List.mem_append_right _ z)) fun z=>by
   have z':p=(C,oc):=by simpa using z
   subst z'
   exact ⟨hC,by rw [y_a hCD];exact hCn,hL,hCf,hnc⟩
  have pg:=y_g (X:=X) (i:=i) (x:=y) (pos:=py) hN hiy hy hf
  refine thn (pg _ s' σ _ (.ref D) (.ref D) (fun σ' H''=>D0.nx σ' H''/\H''=upd H' D (.lst ys)) Ip rfl ⟨fin D hD,rfl⟩) fun _ s'' ⟨σ',H'',I'',q,eH⟩=>?_
  subst eH
  have pC:=I''.pin (C,oc) (by simp)
  obtain ⟨o,es,ep,ho,r⟩:=hns
  rw [hC] at ho
  cases ho
  refine ⟨m,⟨oc,es,ep,pC.1,r⟩,fun h' hsb=>?_⟩
  have Iu:Inv X pins σ' (upd H' D (.lst ys)) s'':=I''.pins_of fun p hp=>I''.pin p (List.mem_append_right _ (List.mem_append_left _ hp))
  exact ⟨σ',_,Iu.turned (t':=s''.toks) (it:=C) (fun b o hb e=>(hsb.2 b hb).trans e) pC.2.1 hL (.inr hsz) hcl hpn,q⟩
end
open PySem PySem.Spec PyProof.Rows
section
variable {X:Cx}
def bigB:Int:=1645504557321206042154969182557350504982735865633579863348609024
def CDivL(i j:Int):Prop:=0<j/\j<bigB
theorem s_g{n k:Nat}(h:n<2^k)(hk:0<k):n.log2<k:=by
 by_cases h0:n=0
 ·subst h0;simpa using hk
 ·exact (Nat.log2_lt h0).mpr h
theorem m_m:OpR X (binaryOp .FloorDiv) (rI CDivL fun i j=>.int (i/j)):=opI fun i j _ _ _ _ _ hc q=>by
 have h1:(0:Int)<j:=hc.1
 have h2:j<bigB:=hc.2
 refine floordiv_int (by lia) (by rw [Int.fdiv_eq_ediv_of_nonneg i (by lia)];exact q) (.inl (PyProof.noPylong_of_log2 ?_))
 have h3:j.natAbs<2^210:=by
  have e:(2^210:Nat)=1645504557321206042154969182557350504982735865633579863348609024:=by decide
  unfold bigB at h2
  rw [e]
  lia
 exact Nat.lt_of_lt_of_le (s_g h3 (by decide)) (by decide)
theorem t_n:OpR X (compareOp .LtE) (fun x y H Q=>∃ i j,x = .str i/\y = .str j/\Q (.bl (!decide (j.cps.toList<i.cps.toList))) H):=by
 intro pins s σ H x y v u Q I rx ry h
 obtain ⟨i,j,rfl,rfl,q⟩:=h
 obtain ⟨t,rfl⟩:=rx
 obtain ⟨t',rfl⟩:=ry
 exact PySem.P.le_str (y_v I q rfl)
theorem z_x{T:String}:CallR X (.builtin "isinstance") (fun xs H Q=>∃ x t b,xs=[x,.ty T]/\TyOf X.K H x t/\kitOne X.K t (.type T)=some b/\Q (.bl b) H):=by
 intro pins s σ H xs us Q I r h
 obtain ⟨x,t,b,rfl,ty,e,q⟩:=h
 obtain ⟨u,w',rfl,rx,rt⟩:=vals2 r
 cases rt
 exact j_i I rx ty e fun tk=>⟨.bl b,H,I.tok _,rfl,q⟩
theorem bools_of{bs:List Bool}:∀ {us:List Value},Vals (bs.map V.bl) us->us=bs.map Value.bool:=by
 induction bs with
 | nil=>intro us r;cases r;rfl
 | cons b bs ih =>
  intro us r
  rw [List.map_cons] at r
  cases r with
  | cons r1 r2 =>
   cases r1
   rw [ih r2,List.map_cons]
theorem w_w:CallR X (.builtin "all") (fun xs H Q=>X.calm=true/\∃ (p:Addr) (bs:List Bool),xs=[.ref p]/\SqL X.K H p (bs.map V.bl)/\Q (.bl (bs.all id)) H):=by
 intro pins s σ H xs us Q I r h
 obtain ⟨hc,p,bs,rfl,hp,q⟩:=h
 obtain ⟨u,rfl,ru⟩:=vals1 r
 cases ru
 obtain ⟨its,rv,pl,hz⟩:=I.list hp
 have e:=bools_of rv
 subst e
 have hl:=pl.isList
 have hlt:p<s.heap.objs.size:=by obtain ⟨_,e,_⟩:=hl;exact Heap.lt_size e
 refine call_all_walk (wpAny_pyIter_list hl ?_)
 refine ⟨s.heap.objs.size,[s.heap.objs.size,p],[s.heap.objs.size],(bs.map Value.bool).toArray.size,_,_,fun i=>(bs[i]?).getD true,rfl,Walks.list (A:=X.A.in1) (I.ok.hd hc) _ p (Nat.ne_of_lt hlt) (bs.map Value.bool).toArray,
  ⟨⟨_,Heap.get?_push_size _ rfl,rfl,rfl⟩,hl.push _⟩,fun i v s' Q' E' hP hQ=>?_,fun h' tk hk=>?_⟩
 ·have hP':(bs.map Value.bool)[i]? = some v:=by simpa using hP
  rw [List.getElem?_map] at hP'
  cases e:bs[i]? with
  | none=>rw [e] at hP';cases hP'
  | some b =>
   rw [e] at hP'
   have ev:Value.bool b=v:=Option.some.inj hP'
   subst ev
   simp only [e,Option.getD_some] at hQ
   exact wpAny_truthy_bool hQ
 ·have e:((List.range (bs.map Value.bool).toArray.size).all fun i=>(bs[i]?).getD true)=bs.all id:=by
   rw [List.size_toArray,List.length_map]
   rw [Bool.eq_iff_iff,List.all_eq_true,List.all_eq_true]
   constructor
   ·intro h b hb
    obtain ⟨i,hi,rfl⟩:=List.mem_iff_getElem.mp hb
    have:=h i (List.mem_range.mpr hi)
    rw [List.getElem?_eq_getElem hi] at this
    exact this
   ·intro h i hi
    have hi':=List.mem_range.mp hi
    rw [List.getElem?_eq_getElem hi']
    exact h _ (List.getElem_mem hi')
  rw [e]
  exact ⟨.bl _,H,I.kept (t':=tk) fun b o eb=>hk b o (fun z=>by rw [List.mem_singleton.mp z] at eb;exact Nat.lt_irrefl _ (Heap.lt_size eb)) (Heap.get?_push_of_some _ eb),rfl,q⟩
theorem strs_of{ts:List Str}:∀ {us:List Value},Vals (ts.map V.str) us->StrsAre us ts:=by
 induction ts with
 | nil=>intro us r;cases r;exact .nil
 | cons x xs ih =>
  intro us r
  rw [List.map_cons] at r
  cases r with
  | cons r1 r2 =>
   obtain ⟨t,rfl⟩:=r1
   exact .cons x t (ih r2)
theorem q_p:MtR X "str.join" (fun x xs H Q=>∃ (sep:Str) (p:Addr) (ts:List Str),x = .str sep/\xs=[.ref p]/\SqL X.K H p (ts.map V.str)/\(ts.map (·.length)).sum+ts.length*sep.length<=16777216/\Q (.str (Txt.join sep ts)) H):=by
 intro pins s σ H x xs v us Q I rx r h
 obtain ⟨sep,p,ts,rfl,rfl,hp,hz,q⟩:=h
 obtain ⟨t,rfl⟩:=rx
 obtain ⟨u,rfl,ru⟩:=vals1 r
 cases ru
 obtain ⟨its,rv,pl,_⟩:=I.list hp
 exact PyProof.Rows.join_list pl.isList (by simpa using strs_of rv) hz fun t' k=>⟨.str _,H,I.tok _,⟨_,rfl⟩,q⟩
end
def Its(x:Str):It:=⟨fun i _=>i<x.cps.size,fun i H v H'=>H'=H/\∃ c,x.cps[i]? = some c/\v = .str ⟨#[c]⟩,fun i _=>i=x.cps.size⟩
theorem l_m{P:Program}{w:World}{K:PySem.W.Frag}{tg:Expr}{it:Addr}{x:Str}{t:Tok}{T:String}
  (hT:["enumerate", "zip", "dict_itemiterator", "dict_reverseitemiterator", "odict_iterator", "itertools.zip_longest", "itertools.pairwise"].contains T=false)
  (W:∀ A':Around,A'.handled=none->Walks P w A' it [it] [it] x.cps.size (SignAt x) (fun i h=>h.IsStrIter it T x t i))
  (hself:∀ (A:Around) (i:Nat) (s:Shared) (Q:Value->Shared->Prop) (E:Value->Shared->Prop),s.heap.IsStrIter it T x t i->Q (.ref it) s->wpAny (model P w) A (pyIter (.ref it)) Q E s) :
  Turn P w K tg (Its x) [it] it (fun i h=>h.IsStrIter it T x t i) where
 mem:=by simp
 obj:=fun i h st b hb=>by
  have e:b=it:=by simpa using hb
  subst e
  obtain ⟨o,e,c,d⟩:=st
  exact ⟨o,e,fun v z=>by rw [d] at z;cases z⟩
 keep:=fun i h h' st k=>by
  obtain ⟨o,e,c,d⟩:=st
  exact ⟨o,k it (by simp) o e,c,d⟩
 item:=by
  intro X hP hw hK hc i pins s σ H E I hf st hg
  subst hP hw hK
  obtain ⟨f0,f1,f2,f3,f4,f5⟩:=hf it (by simp)
  refine (W X.A (I.ok.hd hc)).item i s _ E hg st fun v h' tk hv st' hk=>?_
  obtain ⟨c,u,hcx,rfl⟩:=hv
  have I1:Inv X pins σ H { s with heap:=h',toks:=tk }:=I.turned (t':=tk) (fun b o hb e=>hk b o (by simpa using hb) e) f0 f1 f3 f4 f5
  obtain ⟨o,e,c',d⟩:=id st'
  exact ⟨_,rfl,go_of (s:={ s with heap:=h',toks:=tk }) e c' d hT ⟨.str ⟨#[c]⟩,H,I1,⟨u,rfl⟩,⟨rfl,c,hcx,rfl⟩,st',fun b hb=>(hf b hb).1⟩⟩
 done:=by
  intro X hP hw hK hc i pins s σ H E I hf st hg
  subst hP hw hK
  obtain ⟨f0,f1,f2,f3,f4,f5⟩:=hf it (by simp)
  have hg':i=x.cps.size:=hg
  subst hg'
  exact (W X.A (I.ok.hd hc)).done s _ E st fun h' tk hk=>⟨rfl,I.turned (t':=tk) (fun b o hb e=>hk b o (by simpa using hb) e) f0 f1 f3 f4 f5⟩
 self:=fun A i s Q E st h=>hself A i s Q E st h
def iStr(tl:TE):TI:=fun σ H R=>tl σ H fun x H1=>∃ z,x = .str z/\R (Its z) H1
theorem pi_str{X:Cx}{tg l:Expr}{tl:TE}(hl:PE X l tl):PI X tg l (iStr tl):=by
 intro pins s σ H R I h
 refine thn (hl pins s σ H _ I h) fun v s1 ⟨x,H1,I1,r1,z,ex,q⟩=>?_
 subst ex
 obtain ⟨t,rfl⟩:=r1
 have hn:H1 s1.heap.objs.size=none:=I1.hok.fresh (Nat.le_refl _)
 have hfp:∀ b∈[s1.heap.objs.size],FpOk X pins H1 b:=fun b hb=>by
  have e:b=s1.heap.objs.size:=by simpa using hb
  subst e
  exact I1.fpOk (Nat.le_refl _) hn
 cases ha:z.cps.all (· < 128)
 ·refine wpAny_pyIter_wide ha ?_
  exact ⟨s1.heap.objs.size,[s1.heap.objs.size],_,Its z,H1,rfl,I1.kept (t':=s1.toks) (fun b u e=>Heap.get?_push_of_some _ e),l_m (T := "str_iterator") (t:=t) (by decide) (fun A' hA=>Walks.strWide hA _ z t) (fun A i s Q E st hQ=>wpAny_pyIter_striter_wide st hQ),
   ⟨_,Heap.get?_push_size _ rfl,rfl,rfl⟩,hfp,q⟩
 ·refine wpAny_pyIter_ascii ha ?_
  exact ⟨s1.heap.objs.size,[s1.heap.objs.size],_,Its z,H1,rfl,I1.kept (t':=s1.toks) (fun b u e=>Heap.get?_push_of_some _ e),l_m (T := "str_ascii_iterator") (t:=t) (by decide) (fun A' hA=>Walks.strAscii hA _ z t) (fun A i s Q E st hQ=>wpAny_pyIter_striter_ascii st hQ),
   ⟨_,Heap.get?_push_size _ rfl,rfl,rfl⟩,hfp,q⟩
section
variable {S:V->St} {tt:TT} {te:TE} {H:Hp} {Fin:List V->Hp->Prop}
theorem v_q{lo:Int}{n:Nat}(Pv:Nat->List V->Hp->Prop)(h0:Pv 0 [] H)(hz:∀ i ys H,i<n->Pv i ys H->ys.length<sizeLine)
  (hs:∀ i ys H,i<n->Pv i ys H->tt (S (.int (lo+i))) H fun b H2=>if b=true then te (S (.int (lo+i))) H2 fun y H3=>Pv (i+1) (ys++[y]) H3 else Pv (i+1) ys H2)
  (hd:∀ ys H,Pv n ys H->Fin ys H):CompW (Itr lo n) S tt te H Fin:=by
 refine ⟨fun i m ys H=>m=n-i/\i<=n/\Pv i ys H,⟨n,by simp,Nat.zero_le _,h0⟩,?_⟩
 rintro i m ys H ⟨rfl,hi,p⟩
 by_cases hlt:i<n
 ·refine .inr ⟨hlt,hz i ys H hlt p,Pv (i+1),fun ys' H' p'=>⟨n-(i+1),by lia,rfl,hlt,p'⟩,fun x H' y=>?_⟩
  obtain ⟨e,y⟩:=y
  subst e y
  exact hs i ys _ hlt p
 ·have e:i=n:=by lia
  subst e
  exact .inl ⟨Nat.le_refl _,hd ys H p⟩
theorem w_h{K:PySem.W.Frag}{a:Addr}{xs:List V}(Pv:Nat->List V->Hp->Prop)(h0:Pv 0 [] H)(hl:∀ i ys H,i<=xs.length->Pv i ys H->SqL K H a xs)(hz:∀ i ys H,i<xs.length->Pv i ys H->ys.length<sizeLine)
  (hs:∀ i x ys H,xs[i]? = some x->Pv i ys H->tt (S x) H fun b H2=>if b=true then te (S x) H2 fun y H3=>Pv (i+1) (ys++[y]) H3 else Pv (i+1) ys H2)
  (hd:∀ ys H,Pv xs.length ys H->Fin ys H):CompW (Itl K a) S tt te H Fin:=by
 refine ⟨fun i m ys H=>m=xs.length-i/\i<=xs.length/\Pv i ys H,⟨xs.length,by simp,Nat.zero_le _,h0⟩,?_⟩
 rintro i m ys H ⟨rfl,hi,p⟩
 have q:=hl i ys H hi p
 by_cases hlt:i<xs.length
 ·refine .inr ⟨⟨xs,xs[i],q,by simp [hlt]⟩,hz i ys H hlt p,Pv (i+1),fun ys' H' p'=>⟨xs.length-(i+1),by lia,rfl,hlt,p'⟩,fun x H' y=>?_⟩
  obtain ⟨e,y⟩:=y
  subst e
  exact hs i x ys _ (y xs q) p
 ·have e:i=xs.length:=by lia
  subst e
  exact .inl ⟨⟨xs,q,Nat.le_refl _⟩,hd ys H p⟩
theorem w_e{K:PySem.W.Frag}{a:Addr}{xs:List V}(Pv:Nat->List V->Hp->Prop)(h0:Pv 0 [] H)(hl:∀ i ys H,i<=xs.length->Pv i ys H->SqT K H a xs)(hz:∀ i ys H,i<xs.length->Pv i ys H->ys.length<sizeLine)
  (hs:∀ i x ys H,xs[i]? = some x->Pv i ys H->tt (S x) H fun b H2=>if b=true then te (S x) H2 fun y H3=>Pv (i+1) (ys++[y]) H3 else Pv (i+1) ys H2)
  (hd:∀ ys H,Pv xs.length ys H->Fin ys H):CompW (Itt K a) S tt te H Fin:=by
 refine ⟨fun i m ys H=>m=xs.length-i/\i<=xs.length/\Pv i ys H,⟨xs.length,by simp,Nat.zero_le _,h0⟩,?_⟩
 rintro i m ys H ⟨rfl,hi,p⟩
 have q:=hl i ys H hi p
 by_cases hlt:i<xs.length
 ·refine .inr ⟨⟨xs,xs[i],q,by simp [hlt]⟩,hz i ys H hlt p,Pv (i+1),fun ys' H' p'=>⟨xs.length-(i+1),by lia,rfl,hlt,p'⟩,fun x H' y=>?_⟩
  obtain ⟨e,y⟩:=y
  subst e
  exact hs i x ys _ (y xs q) p
 ·have e:i=xs.length:=by lia
  subst e
  exact .inl ⟨⟨xs,q,Nat.le_refl _⟩,hd ys H p⟩
theorem n_w{z:Str}(Pv:Nat->List V->Hp->Prop)(h0:Pv 0 [] H)(hz:∀ i ys H,i<z.cps.size->Pv i ys H->ys.length<sizeLine)
  (hs:∀ i c ys H,z.cps[i]? = some c->Pv i ys H->tt (S (.str ⟨#[c]⟩)) H fun b H2=>if b=true then te (S (.str ⟨#[c]⟩)) H2 fun y H3=>Pv (i+1) (ys++[y]) H3 else Pv (i+1) ys H2)
  (hd:∀ ys H,Pv z.cps.size ys H->Fin ys H):CompW (Its z) S tt te H Fin:=by
 refine ⟨fun i m ys H=>m=z.cps.size-i/\i<=z.cps.size/\Pv i ys H,⟨z.cps.size,by simp,Nat.zero_le _,h0⟩,?_⟩
 rintro i m ys H ⟨rfl,hi,p⟩
 by_cases hlt:i<z.cps.size
 ·refine .inr ⟨hlt,hz i ys H hlt p,Pv (i+1),fun ys' H' p'=>⟨z.cps.size-(i+1),by lia,rfl,hlt,p'⟩,fun x H' y=>?_⟩
  obtain ⟨e,c,hc,rfl⟩:=y
  subst e
  exact hs i c ys _ hc p
 ·have e:i=z.cps.size:=by lia
  subst e
  exact .inl ⟨rfl,hd ys H p⟩
end
def rSlS:V->Option Int->Option Int->Hp->VK->Prop:=fun x lo hi H Q=>∃ z,x = .str z/\z.length<=sizeLine/\Q (.str (Txt.slice z lo hi)) H
theorem sl_str{X:Cx}:SlR X rSlS:=by
 intro pins s σ H x v vl vu lo hi sl Q I rx hs pl pu h
 obtain ⟨z,rfl,hz,q⟩:=h
 obtain ⟨t,rfl⟩:=rx
 refine ⟨"str",_,F.slot_str_getitem.lookup,typeIs_str _ _ _,?_⟩
 have fin:∀ t' k,EP X pins σ Q (.str (Txt.slice z lo hi) t') { s with toks:=k }:=fun t' k=>⟨.str _,H,I.tok _,⟨t',rfl⟩,q⟩
 cases pl<;>cases pu
 ·exact wpAny_getItem_str_slice (l:=none) (u:=none) (st:=none) hs rfl (post_val_or_str ⟨Nat.le_trans (Txt.slice_le z _ _) hz,fin⟩)
 ·exact wpAny_getItem_str_slice (l:=none) (u:=some (_,_)) (st:=none) hs rfl (post_val_or_str ⟨Nat.le_trans (Txt.slice_le z _ _) hz,fin⟩)
 ·exact wpAny_getItem_str_slice (l:=some (_,_)) (u:=none) (st:=none) hs rfl (post_val_or_str ⟨Nat.le_trans (Txt.slice_le z _ _) hz,fin⟩)
 ·exact wpAny_getItem_str_slice (l:=some (_,_)) (u:=some (_,_)) (st:=none) hs rfl (post_val_or_str ⟨Nat.le_trans (Txt.slice_le z _ _) hz,fin⟩)
structure TopD(w:World)(K:PySem.W.Frag)(a:Addr)(kvs:List (Str×V)):Prop where
 ex:∃ es n,K.lookup a=some ⟨.type "dict",none,.dict es n,#[]⟩/\PySem.W.KeysLit w.params es.toList/\Paired (fun (p:Str×V) (e:DictEntry)=>(∃ t,e.key = .str p.1 t)/\RelV p.2 e.val) kvs es.toList
 lo:(a == sysModules)=false
theorem l_l{x:Str}:∀ {kvs:List (Str×V)} {l:List DictEntry},Paired (fun (p:Str×V) (e:DictEntry)=>(∃ t,e.key = .str p.1 t)/\RelV p.2 e.val) kvs l ->
  RelO (kvs.lookup x) ((l.find? fun e=>Value.isStrOf x e.key).map (·.val))
 | _,_,.nil=>trivial
 | (k,v)::kvs,e::l,.cons ⟨⟨t,ek⟩,rv⟩ r=>by
  rw [List.lookup_cons,List.find?_cons]
  have hk:Value.isStrOf x e.key=(x == k):=by
   rw [ek]
   show (k == x)=(x == k)
   by_cases hx:x=k
   ·subst hx;rfl
   ·have h1:(x == k)=false:=by simpa using hx
    have h2:(k == x)=false:=by simpa using fun z=>hx (Eq.symm z)
    rw [h1,h2]
  rw [hk]
  cases hx:x == k with
  | true=>exact rv
  | false=>exact l_l r
theorem TopD.find{w:World}{K:PySem.W.Frag}{a:Addr}{kvs:List (Str×V)}(D:TopD w K a kvs)(x:Str):∃ es n,K.lookup a=some ⟨.type "dict",none,.dict es n,#[]⟩/\PySem.W.KeysLit w.params es.toList/\RelO (kvs.lookup x) (findBy Value.isStrOf es x):=by
 obtain ⟨es,n,h1,h2,h3⟩:=D.ex
 refine ⟨es,n,h1,h2,?_⟩
 have q:=l_l (x:=x) h3
 unfold findBy
 rw [<-Array.find?_toList]
 exact q
section
variable {X:Cx} {a:Addr} {kvs:List (Str×V)}
theorem i_e(D:TopD X.w X.K a kvs):OpR X (compareOp .In) (fun x y H Q=>∃ z,x = .str z/\y = .ref a/\Q (.bl (kvs.lookup z).isSome) H):=by
 intro pins s σ H x y v u Q I rx ry h
 obtain ⟨z,rfl,rfl,q⟩:=h
 obtain ⟨t,rfl⟩:=rx
 cases ry
 obtain ⟨es,n,h1,h2,h3⟩:=D.find z
 refine wpAny_in_of (strKind_is _ _ z t) D.lo (PySem.W.mapOf_K (prog:=X.prog) I.kIn h1 h2) ?_
 have e:(kvs.lookup z).isSome=(findBy Value.isStrOf es z).isSome:=h3.isSome_eq
 rw [<-e]
 exact ⟨.bl _,H,I.tok _,rfl,q⟩
theorem p_u(D:TopD X.w X.K a kvs):IxR X (fun x y H Q=>∃ z v,x = .ref a/\y = .str z/\kvs.lookup z=some v/\Q v H):=by
 intro value slice pins s σ H x y v u Q I rx ry h hs
 obtain ⟨z,r,rfl,rfl,hz,q⟩:=h
 cases rx
 obtain ⟨t,rfl⟩:=ry
 obtain ⟨es,n,h1,h2,h3⟩:=D.find z
 rw [hz] at h3
 obtain ⟨u,hu,ru⟩:=RelO.some_of h3
 have hm:=PySem.W.mapOf_K (prog:=X.prog) (w:=X.w) I.kIn h1 h2
 exact tail_any hm.typeIs slot_dict_getitem.lookup (wpAny_getItem_of (strKind_is _ _ z t) hm hu ⟨r,H,I.tok _,ru,q⟩) hs
end
def constV:Expr->Option V
 | .Constant (.str x) _ _=>some (.str x)
 | .Constant (.int i) _ _=>some (.int i)
 | .Constant (.bool b) _ _=>some (.bl b)
 | .Constant .none _ _=>some .non
 | _=>none
def constsV:List Expr->Option (List V)
 | []=>some []
 | e::r=>match constV e,constsV r with
  | some v,some vs=>some (v::vs)
  | _,_=>none
def tVals(vs:List V):TA:=fun _ H Q=>Q vs H
theorem t_o{X:Cx}:∀ {es:List Expr} {vs:List V},constsV es=some vs->PA X es (tVals vs)
 | [],vs,h=>by
  cases h
  exact z_b
 | e::r,vs,h=>by
  unfold constsV at h
  cases he:constV e with
  | none=>rw [he] at h;cases h
  | some v =>
   cases hr:constsV r with
   | none=>rw [he,hr] at h;cases h
   | some ws =>
    rw [he,hr] at h
    have h':v::ws=vs:=Option.some.inj h
    subst h'
    have ih:=t_o (X:=X) hr
    unfold constV at he
    split at he
    ·cases he
     exact z_a (te:=tC (.str _)) z_k ih
    ·cases he
     exact z_a (te:=tC (.int _)) z_f ih
    ·cases he
     exact z_a (te:=tC (.bl _)) v_p ih
    ·cases he
     exact z_a (te:=tC .non) pe_non ih
    ·cases he
@[irreducible] def bigL(es:List Expr)(pos:Pos):Expr:=.List es pos
@[irreducible] def bigT(es:List Expr)(k:Nat)(pos:Pos):Expr:=.Tuple es k pos
theorem o_x(a b c d e:Expr)(es:List Expr)(pos:Pos):Expr.List (a::b::c::d::e::es) pos=bigL (a::b::c::d::e::es) pos:=by unfold bigL;rfl
theorem o_y(a b c d e:Expr)(es:List Expr)(k:Nat)(pos:Pos):Expr.Tuple (a::b::c::d::e::es) k pos=bigT (a::b::c::d::e::es) k pos:=by unfold bigT;rfl
theorem i_g{X:Cx}{es:List Expr}{vs:List V}(h:constsV es=some vs)(pos:Pos):PE X (.List es pos) (tLst (tVals vs)):=y_u (t_o h)
theorem q_x{X:Cx}{es:List Expr}{vs:List V}{pos:Pos}(h:constsV es=some vs):PE X (bigL es pos) (tLst (tVals vs)):=by
 unfold bigL
 exact i_g h pos
end L2
namespace L2
open PySem PySem.Spec PyProof.Rows PySem.SeqAt
mutual
def RdD(K:PySem.W.Frag)(H:Hp):PyData->V->Prop
 | .none,v=>v = .non
 | .bool b,v=>v = .bl b
 | .int i,v=>v = .int i
 | .str x,v=>v = .str x
 | .list ds,v=>∃ p xs,v = .ref p/\SqL K H p xs/\RdDs K H ds xs
 | .tuple ds,v=>∃ p xs,v = .ref p/\SqT K H p xs/\RdDs K H ds xs
 | .dict _,_=>False
def RdDs(K:PySem.W.Frag)(H:Hp):List PyData->List V->Prop
 | [],xs=>xs=[]
 | d::ds,xs=>∃ x r,xs=x::r/\RdD K H d x/\RdDs K H ds r
end
section
variable {K:PySem.W.Frag} {H H':Hp}
theorem RdDs.cons{d:PyData}{ds:List PyData}{x:V}{xs:List V}(h:RdD K H d x)(r:RdDs K H ds xs):RdDs K H (d::ds) (x::xs):=by
 unfold RdDs
 exact ⟨x,xs,rfl,h,r⟩
theorem RdDs.nil:RdDs K H [] []:=by unfold RdDs;rfl
theorem RdD.int(i:Int):RdD K H (.int i) (.int i):=by unfold RdD;rfl
theorem RdD.bl(i:Bool):RdD K H (.bool i) (.bl i):=by unfold RdD;rfl
theorem RdD.str(i:Str):RdD K H (.str i) (.str i):=by unfold RdD;rfl
theorem RdD.non:RdD K H .none .non:=by unfold RdD;rfl
theorem RdD.lst{ds:List PyData}{p:Addr}{xs:List V}(h:SqL K H p xs)(r:RdDs K H ds xs):RdD K H (.list ds) (.ref p):=by
 unfold RdD
 exact ⟨p,xs,rfl,h,r⟩
theorem RdD.tup{ds:List PyData}{p:Addr}{xs:List V}(h:SqT K H p xs)(r:RdDs K H ds xs):RdD K H (.tuple ds) (.ref p):=by
 unfold RdD
 exact ⟨p,xs,rfl,h,r⟩
end
def Cmp(n:Nat)(d:PyData):Prop:=d.canLay0=true/\d.depth<=n
theorem Cmp.int{n:Nat}(i:Int):Cmp n (.int i):=⟨by simp [PyData.canLay0],by simp [PyData.depth]⟩
theorem cmpAll{n:Nat}:∀ {ds:List PyData},(∀ d∈ds,Cmp n d)->PyData.canLayAll0 ds=true/\PyData.depthAll ds<=n
 | [],_=>⟨by simp [PyData.canLayAll0],by simp [PyData.depthAll]⟩
 | d::ds,h=>by
  obtain ⟨h1,h2⟩:=h d List.mem_cons_self
  obtain ⟨h3,h4⟩:=cmpAll (ds:=ds) fun e he=>h e (List.mem_cons_of_mem _ he)
  refine ⟨by simp [PyData.canLayAll0,h1,h3],?_⟩
  simp only [PyData.depthAll]
  lia
theorem Cmp.list{n:Nat}{ds:List PyData}(h:∀ d∈ds,Cmp n d):Cmp (n+1) (.list ds):=by
 obtain ⟨h1,h2⟩:=cmpAll h
 exact ⟨by simp [PyData.canLay0,h1],by simp only [PyData.depth];lia⟩
theorem Cmp.tuple{n:Nat}{ds:List PyData}(h:∀ d∈ds,Cmp n d):Cmp (n+1) (.tuple ds):=by
 obtain ⟨h1,h2⟩:=cmpAll h
 exact ⟨by simp [PyData.canLay0,h1],by simp only [PyData.depth];lia⟩
theorem Cmp.mono{n m:Nat}{d:PyData}(h:Cmp n d)(l:n<=m):Cmp m d:=⟨h.1,Nat.le_trans h.2 l⟩
mutual
theorem m_b:∀ {d:PyData},d.canLay0=true->PyData.eqv d d=true
 | .none,_=>by simp [PyData.eqv]
 | .bool _,_=>by simp [PyData.eqv]
 | .int _,_=>by simp [PyData.eqv]
 | .str _,_=>by simp [PyData.eqv]
 | .list ds,h=>by
  rw [PyData.eqv]
  exact t_e (by simpa [PyData.canLay0] using h)
 | .tuple ds,h=>by
  rw [PyData.eqv]
  exact t_e (by simpa [PyData.canLay0] using h)
 | .dict _,h=>by simp [PyData.canLay0] at h
theorem t_e:∀ {ds:List PyData},PyData.canLayAll0 ds=true->PyData.eqvAll ds ds=true
 | [],_=>by simp [PyData.eqvAll]
 | d::ds,h=>by
  have h':(PyData.canLay0 d&&PyData.canLayAll0 ds)=true:=by simpa [PyData.canLayAll0] using h
  obtain ⟨h1,h2⟩:=Bool.and_eq_true_iff.mp h'
  rw [PyData.eqvAll,m_b h1,t_e h2]
  rfl
end
section
variable {X:Cx} {pins:List (Addr×Obj)} {σ:St} {H:Hp} {s:Shared}
mutual
theorem Inv.reads(I:Inv X pins σ H s):∀ {d:PyData} {x:V} {v:Value},RdD X.K H d x->RelV x v->∃ as,Reads s.heap v d as
 | .none,_,_,h,r=>by unfold RdD at h;subst h;cases r;exact ⟨_,.none⟩
 | .bool b,_,_,h,r=>by unfold RdD at h;subst h;cases r;exact ⟨_,.bool b⟩
 | .int i,_,_,h,r=>by unfold RdD at h;subst h;obtain ⟨t,rfl⟩:=r;exact ⟨_,.int i t⟩
 | .str i,_,_,h,r=>by unfold RdD at h;subst h;obtain ⟨t,rfl⟩:=r;exact ⟨_,.str i t⟩
 | .list ds,_,_,h,r=>by
  unfold RdD at h
  obtain ⟨p,xs,rfl,h2,h3⟩:=h
  cases r
  obtain ⟨its,rv,⟨o,n,e1,e2,e3,e4⟩,_⟩:=I.list h2
  obtain ⟨as,ra⟩:=Inv.readsAll I h3 rv
  exact ⟨_,.list e1 e2 e4 (by simpa using ra)⟩
 | .tuple ds,_,_,h,r=>by
  unfold RdD at h
  obtain ⟨p,xs,rfl,h2,h3⟩:=h
  cases r
  obtain ⟨its,rv,⟨o,e1,e2,n,e4⟩,_⟩:=I.tuple h2
  obtain ⟨as,ra⟩:=Inv.readsAll I h3 rv
  exact ⟨_,.tuple e1 e2 e4 (by simpa using ra)⟩
 | .dict _,_,_,h,_=>by unfold RdD at h;exact h.elim
theorem Inv.readsAll(I:Inv X pins σ H s):∀ {ds:List PyData} {xs:List V} {vs:List Value},RdDs X.K H ds xs->Vals xs vs->∃ as,ReadsAll s.heap vs ds as
 | [],_,_,h,r=>by unfold RdDs at h;subst h;cases r;exact ⟨_,.nil⟩
 | d::ds,_,_,h,r=>by
  unfold RdDs at h
  obtain ⟨x,q,rfl,h2,h3⟩:=h
  cases r with
  | cons r1 r2 =>
   obtain ⟨as,ra⟩:=Inv.reads I h2 r1
   obtain ⟨bs,rb⟩:=Inv.readsAll I h3 r2
   exact ⟨_,.cons ra rb⟩
end
def rEqD(K:PySem.W.Frag)(no:Bool):R2:=fun x y H Q=>∃ dx dy,RdD K H dx x/\RdD K H dy y/\Cmp 64 dx/\Cmp 64 dy/\Q (.bl (no ^^ PyData.eqv dx dy)) H
theorem Cmp.shaped{d:PyData}(h:Cmp 64 d):shaped d=true:=by
 unfold SeqAt.shaped
 rw [h.1,decide_eq_true h.2]
 rfl
theorem op_neD(hu:X.A.units+64<cLine):OpR X (compareOp .NotEq) (rEqD X.K true):=by
 intro pins s σ H x y v u Q I rx ry h
 obtain ⟨dx,dy,hx,hy,cx,cy,q⟩:=h
 obtain ⟨as,ra⟩:=I.reads hx rx
 obtain ⟨bs,rb⟩:=I.reads hy ry
 rw [Bool.true_xor] at q
 exact compareNe_shaped ra rb cx.shaped cy.shaped hu ⟨.bl _,H,I,rfl,q⟩
end
theorem rEqD.eq{K:PySem.W.Frag}{x y:V}{H:Hp}{Q:VK}{no:Bool}(d:PyData)(hx:RdD K H d x)(hy:RdD K H d y)(c:Cmp 64 d)(q:Q (.bl (!no)) H):rEqD K no x y H Q :=
 ⟨d,d,hx,hy,c,c,by rw [m_b c.1,Bool.xor_true];exact q⟩
open PySem PySem.Spec PyProof.Rows
section
variable {X:Cx} {K:PySem.W.Frag} (h:X.K=K)
include h
theorem ix_listK:IxR X (rIxL K):=by subst h;exact z_v
theorem q_n:IxR X (rIxT K):=by subst h;exact z_n
end
end L2
namespace L2
open PySem PySem.Spec
theorem z_e{H:Hp}{p:Addr}(h:H p=none)(o:HO):Same H (upd H p o):=fun b u q=>by rw [y_a (z_r q h)];exact q
theorem x_y{H H':Hp}{p:Addr}(s:Same H H')(n:H p=none)(o:HO):Same H (upd H' p o):=fun b u q=>by rw [y_a (z_r q n)];exact s b u q
theorem small{n:Nat}(h:n<=100000):n<=sizeLine:=Nat.le_trans h (by decide)
theorem y_j{n:Nat}(h:n<=100000):n<sizeLine:=Nat.lt_of_le_of_lt h (by decide)
theorem zl0:0<=sizeLine:=by decide
theorem zl1:1<=sizeLine:=by decide
theorem zl2:2<=sizeLine:=by decide
theorem zl3:3<=sizeLine:=by decide
theorem zl4:4<=sizeLine:=by decide
theorem zl5:5<=sizeLine:=by decide
theorem zl6:6<=sizeLine:=by decide
theorem zl7:7<=sizeLine:=by decide
def Drawn(rs:List Int):Prop:=∀ r∈rs,0<=r/\r<1000000
theorem y_l{α β:Type}{R S:α->β->Prop}(h:∀ a b,R a b->S a b):∀ {xs:List α} {ys:List β},Paired R xs ys->Paired S xs ys
 | _,_,.nil=>.nil
 | _,_,.cons a b=>.cons (h _ _ a) (y_l h b)
theorem x_o{α β:Type}{R:α->β->Prop}{x:α}{y:β}(h:R x y):∀ {xs:List α} {ys:List β},Paired R xs ys->Paired R (xs++[x]) (ys++[y])
 | _,_,.nil=>.cons h .nil
 | _,_,.cons a b=>.cons a (x_o h b)
theorem pairedApp{α β:Type}{R:α->β->Prop}{us:List α}{vs:List β}(h:Paired R us vs):∀ {xs:List α} {ys:List β},Paired R xs ys->Paired R (xs++us) (ys++vs)
 | _,_,.nil=>h
 | _,_,.cons a b=>.cons a (pairedApp h b)
theorem n_x{xs:List V}{n:Nat}(h:n<=xs.length):cutV xs (some (n:Int)) none=xs.drop n:=by
 unfold cutV
 rw [HT.sIx_nat,HT.sIx_none,Nat.min_eq_left h,List.take_of_length_le (by rw [List.length_drop];lia)]
theorem z_s{c:Bool}{A B:Prop}(h:c=false)(q:B):if c=true then A else B:=by rw [h];exact q
theorem y_b{c:Bool}{A B:Prop}(h:c=true)(q:A):if c=true then A else B:=by rw [h];exact q
end L2
namespace L2
open PySem PySem.Spec
end L2
namespace L2
open PySem PySem.Spec
end L2
namespace L2
open PySem PySem.Spec
end L2
namespace L2
open PySem PySem.Spec PyProof.Rows
mutual
def Dat(H:Hp):PyData->V->Prop
 | .none,v=>v = .non
 | .bool b,v=>v = .bl b
 | .int i,v=>v = .int i
 | .str x,v=>v = .str x
 | .list ds,v=>∃ p xs,v = .ref p/\H p=some (.lst xs)/\Dats H ds xs
 | .tuple ds,v=>∃ p xs,v = .ref p/\H p=some (.tup xs)/\Dats H ds xs
 | .dict _,_=>False
def Dats(H:Hp):List PyData->List V->Prop
 | [],xs=>xs=[]
 | d::ds,xs=>∃ x r,xs=x::r/\Dat H d x/\Dats H ds r
end
section
variable {H H':Hp}
mutual
theorem Dat.same(e:Same H H'):∀ {d:PyData} {v:V},Dat H d v->Dat H' d v
 | .none,_,h=>by unfold Dat at *;exact h
 | .bool _,_,h=>by unfold Dat at *;exact h
 | .int _,_,h=>by unfold Dat at *;exact h
 | .str _,_,h=>by unfold Dat at *;exact h
 | .list ds,_,h=>by
  unfold Dat at *
  obtain ⟨p,xs,h1,h2,h3⟩:=h
  exact ⟨p,xs,h1,e _ _ h2,Dats.same e h3⟩
 | .tuple ds,_,h=>by
  unfold Dat at *
  obtain ⟨p,xs,h1,h2,h3⟩:=h
  exact ⟨p,xs,h1,e _ _ h2,Dats.same e h3⟩
 | .dict _,_,h=>by unfold Dat at h;exact h.elim
theorem Dats.same(e:Same H H'):∀ {ds:List PyData} {xs:List V},Dats H ds xs->Dats H' ds xs
 | [],_,h=>by unfold Dats at *;exact h
 | d::ds,_,h=>by
  unfold Dats at *
  obtain ⟨x,r,h1,h2,h3⟩:=h
  exact ⟨x,r,h1,Dat.same e h2,Dats.same e h3⟩
end
mutual
theorem Dat.rd{K:PySem.W.Frag}:∀ {d:PyData} {v:V},Dat H d v->RdD K H d v
 | .none,_,h=>by unfold Dat at h;subst h;exact .non
 | .bool _,_,h=>by unfold Dat at h;subst h;exact .bl _
 | .int _,_,h=>by unfold Dat at h;subst h;exact .int _
 | .str _,_,h=>by unfold Dat at h;subst h;exact .str _
 | .list ds,_,h=>by
  unfold Dat at h
  obtain ⟨p,xs,rfl,h2,h3⟩:=h
  exact RdD.lst (SqL.of h2) (Dats.rd h3)
 | .tuple ds,_,h=>by
  unfold Dat at h
  obtain ⟨p,xs,rfl,h2,h3⟩:=h
  exact RdD.tup (SqT.of h2) (Dats.rd h3)
 | .dict _,_,h=>by unfold Dat at h;exact h.elim
theorem Dats.rd{K:PySem.W.Frag}:∀ {ds:List PyData} {xs:List V},Dats H ds xs->RdDs K H ds xs
 | [],_,h=>by unfold Dats at h;subst h;exact .nil
 | d::ds,_,h=>by
  unfold Dats at h
  obtain ⟨x,r,rfl,h2,h3⟩:=h
  exact .cons (Dat.rd h2) (Dats.rd h3)
end
theorem Dat.int(i:Int):Dat H (.int i) (.int i):=by unfold Dat;rfl
theorem Dat.str(x:Str):Dat H (.str x) (.str x):=by unfold Dat;rfl
theorem Dat.lst{ds:List PyData}{p:Addr}{xs:List V}(h:H p=some (.lst xs))(r:Dats H ds xs):Dat H (.list ds) (.ref p):=by unfold Dat;exact ⟨p,xs,rfl,h,r⟩
theorem Dat.tup{ds:List PyData}{p:Addr}{xs:List V}(h:H p=some (.tup xs))(r:Dats H ds xs):Dat H (.tuple ds) (.ref p):=by unfold Dat;exact ⟨p,xs,rfl,h,r⟩
theorem Dats.nil:Dats H [] []:=by unfold Dats;rfl
theorem Dats.cons{d:PyData}{ds:List PyData}{x:V}{xs:List V}(h:Dat H d x)(r:Dats H ds xs):Dats H (d::ds) (x::xs):=by unfold Dats;exact ⟨x,xs,rfl,h,r⟩
theorem Dats.ints(ns:List Int):Dats H (ns.map PyData.int) (ns.map V.int):=by
 induction ns with
 | nil=>exact .nil
 | cons n r ih=>exact .cons (.int n) ih
theorem Dats.length{ds:List PyData}{xs:List V}(a:Dats H ds xs):ds.length=xs.length:=by
 induction ds generalizing xs with
 | nil=>unfold Dats at a;subst a;rfl
 | cons d r ih =>
  unfold Dats at a
  obtain ⟨x,q,rfl,h1,h2⟩:=a
  simp [ih h2]
theorem Dats.get{ds:List PyData}{xs:List V}(a:Dats H ds xs){i:Nat}{x:V}(h:xs[i]? = some x):∃ d,ds[i]? = some d/\Dat H d x:=by
 induction ds generalizing xs i with
 | nil=>unfold Dats at a;subst a;simp at h
 | cons d r ih =>
  unfold Dats at a
  obtain ⟨y,q,rfl,h1,h2⟩:=a
  cases i with
  | zero=>simp at h;subst h;exact ⟨d,rfl,h1⟩
  | succ k=>exact ih h2 (by simpa using h)
theorem Dats.append{ds es:List PyData}{xs ys:List V}(a:Dats H ds xs)(b:Dats H es ys):Dats H (ds++es) (xs++ys):=by
 induction ds generalizing xs with
 | nil=>unfold Dats at a;subst a;exact b
 | cons d r ih =>
  unfold Dats at a
  obtain ⟨x,q,rfl,h1,h2⟩:=a
  exact .cons h1 (ih h2)
theorem Dats.take{ds:List PyData}{xs:List V}(a:Dats H ds xs)(n:Nat):Dats H (ds.take n) (xs.take n):=by
 induction ds generalizing xs n with
 | nil=>unfold Dats at a;subst a;simp;exact .nil
 | cons d r ih =>
  unfold Dats at a
  obtain ⟨x,q,rfl,h1,h2⟩:=a
  cases n with
  | zero=>exact .nil
  | succ n=>exact .cons h1 (ih h2 n)
theorem Dats.drop{ds:List PyData}{xs:List V}(a:Dats H ds xs)(n:Nat):Dats H (ds.drop n) (xs.drop n):=by
 induction ds generalizing xs n with
 | nil=>unfold Dats at a;subst a;simp;exact .nil
 | cons d r ih =>
  cases n with
  | zero=>exact a
  | succ n =>
   unfold Dats at a
   obtain ⟨x,q,rfl,h1,h2⟩:=a
   exact ih h2 n
end
def dInt:PyData->Bool
 | .int _=>true | .bool _=>true | _=>false
def dBool:PyData->Bool
 | .bool _=>true | _=>false
def dStr:PyData->Bool
 | .str _=>true | _=>false
def dTup:PyData->Bool
 | .tuple _=>true | _=>false
def dLst:PyData->Bool
 | .list _=>true | _=>false
theorem Dat.ty{K:PySem.W.Frag}{H:Hp}{d:PyData}{v:V}(h:Dat H d v):∃ t,TyOf K H v t/\kitOne K t (.type "int")=some (dInt d)/\kitOne K t (.type "bool")=some (dBool d)/\kitOne K t (.type "str")=some (dStr d)/\kitOne K t (.type "tuple")=some (dTup d)/\kitOne K t (.type "list")=some (dLst d):=by
 cases d with
 | none=>unfold Dat at h;subst h;exact ⟨_,.non,rfl,rfl,rfl,rfl,rfl⟩
 | bool b=>unfold Dat at h;subst h;exact ⟨_,.bl b,rfl,rfl,rfl,rfl,rfl⟩
 | int b=>unfold Dat at h;subst h;exact ⟨_,.int b,rfl,rfl,rfl,rfl,rfl⟩
 | str b=>unfold Dat at h;subst h;exact ⟨_,.str b,rfl,rfl,rfl,rfl,rfl⟩
 | list ds =>
  unfold Dat at h
  obtain ⟨p,xs,rfl,h2,_⟩:=h
  exact ⟨_,.lst h2,rfl,rfl,rfl,rfl,rfl⟩
 | tuple ds =>
  unfold Dat at h
  obtain ⟨p,xs,rfl,h2,_⟩:=h
  exact ⟨_,.tup h2,rfl,rfl,rfl,rfl,rfl⟩
 | dict _=>unfold Dat at h;exact h.elim
def wholeD:PyData->Bool
 | .int _=>true | _=>false
theorem h_c(d:PyData):(dInt d && !dBool d)=wholeD d:=by cases d<;>rfl
def betD(d:PyData)(lo hi:Int):Bool:=match d with
 | .int i=>decide (lo<=i)&&decide (i<=hi)
 | _=>false
def l_j:Sp:=fun vs H Q _=>∃ d v,vs=[v]/\Dat H d v/\Q (.bl (wholeD d)) H
def u_a:Sp:=fun vs H Q _=>∃ d v lo hi,vs=[v,.int lo,.int hi]/\Dat H d v/\Q (.bl (betD d lo hi)) H
section
variable {K:PySem.W.Frag} {a:Addr} {S:V->St} {te:TE} {H:Hp} {Fin:List V->Hp->Prop}
theorem k_v{ds:List PyData}{xs:List V}(f:PyData->V)(hp:H a=some (.tup xs))(hD:Dats H ds xs)(hz:ds.length<=100000)(hs:∀ d x,d∈ds->Dat H d x->∀ N:V->Hp->Prop,N (f d) H->te (S x) H N)(hd:Fin (ds.map f) H):CompW (Itt K a) S tYes te H Fin:=by
 have hl:=hD.length
 refine w_e (xs:=xs) (fun i ys H'=>ys=(ds.take i).map f/\H=H') ⟨rfl,rfl⟩ ?_ ?_ ?_ ?_
 ·rintro i ys H' _ ⟨_,rfl⟩
  exact SqT.of hp
 ·rintro i ys H' hi ⟨rfl,_⟩
  rw [List.length_map,List.length_take]
  exact y_j (by lia)
 ·rintro i x ys H' hx ⟨rfl,rfl⟩
  obtain ⟨d,hd1,hd2⟩:=hD.get hx
  obtain ⟨hi,he⟩:=List.getElem?_eq_some_iff.mp hd1
  unfold tYes
  dsimp only
  rw [if_pos rfl]
  refine hs d x (he▸List.getElem_mem hi) hd2 _ ⟨?_,rfl⟩
  rw [List.take_succ_eq_append_getElem hi,List.map_append,he]
  rfl
 ·rintro ys H' ⟨rfl,rfl⟩
  rw [<-hl,List.take_length]
  exact hd
end
theorem Dat.tupI{H:Hp}{ds:List PyData}{v:V}(h:Dat H (.tuple ds) v):∃ p xs,v = .ref p/\H p=some (.tup xs)/\Dats H ds xs:=by unfold Dat at h;exact h
theorem Dat.lstI{H:Hp}{ds:List PyData}{v:V}(h:Dat H (.list ds) v):∃ p xs,v = .ref p/\H p=some (.lst xs)/\Dats H ds xs:=by unfold Dat at h;exact h
theorem Dat.intI{H:Hp}{i:Int}{v:V}(h:Dat H (.int i) v):v = .int i:=by unfold Dat at h;exact h
theorem Dats.consI{H:Hp}{d:PyData}{ds:List PyData}{xs:List V}(h:Dats H (d::ds) xs):∃ x r,xs=x::r/\Dat H d x/\Dats H ds r:=by unfold Dats at h;exact h
theorem Dats.nilI{H:Hp}{xs:List V}(h:Dats H [] xs):xs=[]:=by unfold Dats at h;exact h
end L2
namespace L2
open PySem PySem.Spec
def Bag(H:Hp)(l:Addr):Prop:=∃ b0 b1:Int,H l=some (.lst [.int b0,.int b1])/\0<=b0
def Bg(l:Addr)(H H':Hp):Prop:=(∀ b o,b≠l->H b=some o->H' b=some o)/\Bag H' l
theorem Bg.trans{l:Addr}{H H1 H2:Hp}(a:Bg l H H1)(b:Bg l H1 H2):Bg l H H2:=⟨fun c o n e=>b.1 c o n (a.1 c o n e),b.2⟩
theorem Bg.refl{l:Addr}{H:Hp}(b:Bag H l):Bg l H H:=⟨fun _ _ _ e=>e,b⟩
theorem Bag.ne{H:Hp}{l p:Addr}(b:Bag H l)(n:H p=none):p≠l:=fun e=>by
 obtain ⟨_,_,h,_⟩:=b
 rw [e,h] at n;cases n
theorem Bag.neT{H:Hp}{l p:Addr}{xs:List V}(b:Bag H l)(n:H p=some (.tup xs)):p≠l:=fun e=>by
 obtain ⟨_,_,h,_⟩:=b
 rw [e,h] at n;cases n
theorem Bg.new{l p:Addr}{H:Hp}(b:Bag H l)(n:H p=none)(o:HO):Bg l H (upd H p o):=by
 refine ⟨fun c u _ e=>by rw [y_a (z_r e n)];exact e,?_⟩
 obtain ⟨b0,b1,h,h0⟩:=b
 exact ⟨b0,b1,by rw [y_a (z_r h n)];exact h,h0⟩
theorem Bg.put{l:Addr}{H:Hp}(b0 b1:Int)(h0:0<=b0):Bg l H (upd H l (.lst [.int b0,.int b1])) :=
 ⟨fun c u n e=>by rw [y_a n];exact e,b0,b1,z_c,h0⟩
theorem Bag.set{l p:Addr}{H:Hp}(b:Bag H l)(hp:p≠l)(o:HO):Bag (upd H p o) l:=by
 obtain ⟨b0,b1,h,h0⟩:=b
 exact ⟨b0,b1,by rw [y_a (Ne.symm hp)];exact h,h0⟩
theorem Bg.set{l p:Addr}{H H':Hp}(b:Bg l H H')(n:H p=none)(hp:p≠l)(o:HO):Bg l H (upd H' p o) :=
 ⟨fun c u nc e=>by rw [y_a (z_r e n)];exact b.1 c u nc e,b.2.set hp o⟩
theorem Bg.same{l:Addr}{H H1 H2:Hp}(n:H l=none)(a:Same H H1)(b:Bg l H1 H2):Same H H2:=fun c o e=>b.1 c o (z_r e n) (a c o e)
theorem Bag.same{H H':Hp}{l:Addr}(b:Bag H l)(s:Same H H'):Bg l H H':=by
 obtain ⟨b0,b1,h,h0⟩:=b
 exact ⟨fun c o _ e=>s c o e,b0,b1,s _ _ h,h0⟩
theorem at_any{α:Type}{xs:List α}{i:Int}(h0:0<=i)(h:i<xs.length):∃ v,atI xs i=some v/\xs[i.toNat]? = some v:=by
 obtain ⟨k,rfl⟩:=Int.eq_ofNat_of_zero_le h0
 have hk:k<xs.length:=by lia
 exact ⟨xs[k],z_t (List.getElem?_eq_getElem hk),by rw [Int.toNat_natCast];exact List.getElem?_eq_getElem hk⟩
theorem k_p{ns:List Int}{i:Nat}(h:i<ns.length):∃ v:Int,atI (ns.map V.int) (i:Int)=some (.int v) :=
 ⟨ns[i],z_t (by rw [List.getElem?_map,List.getElem?_eq_getElem h]<;>rfl)⟩
theorem at_mapI{ns:List Int}{i:Int}(h0:0<=i)(h:i<ns.length):∃ v:Int,atI (ns.map V.int) i=some (.int v):=by
 obtain ⟨k,rfl⟩:=Int.eq_ofNat_of_zero_le h0
 exact k_p (by lia)
def m_x(K:PySem.W.Frag):Sp:=fun vs H Q _=>∃ (a:Addr) (ns:List Int) (i:Int),vs=[.ref a,.int i]/\SqL K H a (ns.map V.int)/\ns.length<=63/\0<=i/\∀ l b0 b1,H l=none->(0:Int)<=b0->Q (.ref l) (upd H l (.lst [.int b0,.int b1]))
def v_h:Sp:=fun vs H Q _=>∃ (l:Addr) (many:Int),vs=[.ref l,.int many]/\Bag H l/\0<many/\many<bigB/\∀ d H',0<=d->d<many->Bg l H H'->Q (.int d) H'
def words:List Str:=["wire", "number", "not", "and", "or", "odd", "sum", "less", "under", "same", "choice", "up", "down", "join", "cut", "table"]
def formK(z:Str):Nat:=if z = "wire" then 2 else if z = "number" then 3 else if z = "up" then 2 else if z = "down" then 2 else if z = "cut" then 3 else if z = "table" then 3 else 1
def formN(z:Str):Nat:=if z = "wire" then 2 else if z = "not" then 2 else if z = "choice" then 4 else if z = "cut" then 4 else if z = "table" then 4 else 3
mutual
def noL:PyData->Bool
 | .list _=>false
 | .tuple ds=>noLs ds
 | _=>true
def noLs:List PyData->Bool
 | []=>true
 | d::ds=>noL d&&noLs ds
end
def KeepT(H H':Hp):Prop:=∀ p xs,H p=some (.tup xs)->H' p=some (.tup xs)
mutual
theorem Dat.keepT{H H':Hp}(k:KeepT H H'):∀ {d:PyData} {v:V},noL d=true->Dat H d v->Dat H' d v
 | .none,_,_,h=>by unfold Dat at *;exact h
 | .bool _,_,_,h=>by unfold Dat at *;exact h
 | .int _,_,_,h=>by unfold Dat at *;exact h
 | .str _,_,_,h=>by unfold Dat at *;exact h
 | .list ds,_,n,h=>by simp [noL] at n
 | .tuple ds,_,n,h=>by
  unfold Dat at *
  obtain ⟨p,xs,h1,h2,h3⟩:=h
  exact ⟨p,xs,h1,k _ _ h2,Dats.keepT k (by simpa [noL] using n) h3⟩
 | .dict _,_,_,h=>by unfold Dat at h;exact h.elim
theorem Dats.keepT{H H':Hp}(k:KeepT H H'):∀ {ds:List PyData} {xs:List V},noLs ds=true->Dats H ds xs->Dats H' ds xs
 | [],_,_,h=>by unfold Dats at *;exact h
 | d::ds,_,n,h=>by
  have n':noL d=true/\noLs ds=true:=by simpa [noLs] using n
  unfold Dats at *
  obtain ⟨x,r,h1,h2,h3⟩:=h
  exact ⟨x,r,h1,Dat.keepT k n'.1 h2,Dats.keepT k n'.2 h3⟩
end
theorem KeepT.same{H H':Hp}(s:Same H H'):KeepT H H':=fun p xs h=>s _ _ h
theorem KeepT.trans{H H1 H2:Hp}(a:KeepT H H1)(b:KeepT H1 H2):KeepT H H2:=fun p xs h=>b _ _ (a _ _ h)
theorem KeepT.lst{H:Hp}{p:Addr}{xs:List V}(h:H p=some (.lst xs))(o:HO):KeepT H (upd H p o):=fun q ys e=>by
 rw [y_a (fun z=>by rw [z,h] at e;cases e)]
 exact e
theorem Bg.keepT{l:Addr}{H H':Hp}(b:Bag H l)(g:Bg l H H'):KeepT H H':=fun p xs h=>g.1 p _ (b.neT h) h
theorem x_g{ds:List PyData}(h:∀ d∈ds,noL d=true):noLs ds=true:=by
 induction ds with
 | nil=>simp [noLs]
 | cons d r ih=>simp [noLs,h d List.mem_cons_self,ih fun e he=>h e (List.mem_cons_of_mem _ he)]
open PySem PySem.Spec PyProof.Rows
open PySem PySem.Spec
theorem pairedSn{α β:Type}{R:α->β->Prop}{xs us:List α}{ys vs:List β}(p:Paired R xs ys)(q:Paired R us vs):Paired R (xs++us) (ys++vs):=pairedApp q p
theorem x_p{α β:Type}{R:α->β->Prop}:∀ {xs:List α} {ys:List β} {i:Nat} {x:α},Paired R xs ys->xs[i]? = some x->∃ y,ys[i]? = some y/\R x y
 | _,_,i,x,.nil,h=>by simp at h
 | _,_,0,x,.cons a b,h=>by
  simp at h
  subst h
  exact ⟨_,rfl,a⟩
 | _,_,i+1,x,.cons a b,h=>by
  rw [List.getElem?_cons_succ] at h ⊢
  exact x_p b h
theorem y_f{α:Type}{xs:List α}{i:Nat}{x:α}(h:xs[i]? = some x):xs.take (i+1)=xs.take i++[x]:=by
 obtain ⟨hi,he⟩:=List.getElem?_eq_some_iff.mp h
 rw [List.take_succ_eq_append_getElem hi,he]
variable {X:Cx}
theorem mt_joinK{K:PySem.W.Frag}(h:X.K=K):MtR X "str.join" (fun x xs H Q=>∃ (sep:Str) (p:Addr) (ts:List Str),x = .str sep/\xs=[.ref p]/\SqL K H p (ts.map V.str)/\(ts.map (·.length)).sum+ts.length*sep.length<=16777216/\Q (.str (Txt.join sep ts)) H):=by subst h;exact q_p
theorem pe_bmK{K:PySem.W.Frag}{o e:Expr}{es:List Expr}{to:TE}{t:TA}{name:Str}{apos cpos:Pos}{T id:String}{r:V->List V->Hp->VK->Prop}(hK:X.K=K)(pa:PlainAttrs T)(slot:Slot T name id)(hty:typeOf (.builtin id)=pure (.type "method_descriptor"))(hm:MtR X id r)(ho:PE X o to)(ha:PA X (e::es) t)
  (hbase:attributeBase o name X.env (eval o X.env)=eval o X.env:=by rfl)
  (hfew:((backTo cpos (starEach (e::es) X.env)).all (fun x=>!x.1)&&(backToKw cpos (keywordEach [] X.env)).all (fun x=>x.1.isSome)
   && decide ((e::es).length+([]:List Keyword).length+(if ([]:List Keyword).isEmpty then 0 else 1)<30))=true:=by rfl)
  (hline:(apos.endLine == cpos.line)=true:=by rfl) (hs:starEach (e::es) X.env=(false,eval e X.env)::starEach es X.env:=by rfl) (hplain:(backTo cpos (starEach es X.env)).any (·.1)=false:=by rfl) :
  PE X (.Call (.Attribute o name apos) (e::es) [] cpos) (tBM K T r to t):=by
 subst hK
 exact w_t pa slot hty hm ho ha hbase hfew hline hs hplain
end L2
namespace L2
open PySem
end L2
namespace L2
open PySem PySem.Spec PyProof.Rows
section
variable {X:Cx} {pins:List (Addr×Obj)} {σ:St} {H:Hp} {s:Shared} {h':Heap}
theorem Inv.turnedL{t':Nat}{ch:List Addr}(I:Inv X pins σ H s)(k:∀ b o,b∉ch->s.heap.get? b=some o->h'.get? b=some o)(hc:∀ b∈ch,FpOk X pins H b):Inv X pins σ H { s with heap:=h',toks:=t' }:=by
 have nit:∀ b u,H b=some u->b∉ch:=fun b u e z=>by have:=(hc b z).1;rw [this] at e;cases e
 refine I.step (g':=s.gens) (d':=s.drawn) (ch:=ch) (fun b hb=>?_) (fun b o _ _ hn e _=>k b o hn e) (fun b o _ _ hn e _=>⟨o.slots,k b o hn e⟩) (fun _ _ _ _ n=>n)
  (fun b o hn e=>⟨o,k b o hn e⟩) (fun _ _ e=>e) (fun _ _ _ e=>e) (fun _ _ _ e=>e) (fun m hm=>?_) (fun b u e=>?_) I.bare
 ·obtain ⟨_,f1,_,f3,f4,f5⟩:=hc b hb
  exact ⟨f3,f1,f4,f5⟩
 ·obtain ⟨o,es,ep,ho,r⟩:=hm
  exact ⟨o,es,ep,k _ o (fun z=>(hc _ z).2.1 rfl) ho,r⟩
 ·refine (I.hok b u e).stay (fun c v hn q=>k c v ?_ q) (fun _ q=>q) (fun _ _ q=>q) fun _ _ _ q=>q
  rcases hn with z | z
  ·rw [z];exact nit b u e
  ·exact nit c _ z
end
def Itz(K : PySem.W.Frag)(a b : Addr) : It :=
  ⟨fun i H => ∃ xs ys x y, SqL K H a xs /\ SqL K H b ys /\ xs[i]? = some x /\ ys[i]? = some y,
   fun i H v H' => ∃ p x y, v = .ref p /\ H p = none /\ H' = upd H p (.tup [x, y]) /\ (∀ xs, SqL K H a xs -> xs[i]? = some x) /\ ∀ ys, SqL K H b ys -> ys[i]? = some y,
   fun i H => ∃ xs ys, SqL K H a xs /\ SqL K H b ys /\ (xs.length <= i \/ ys.length <= i)⟩
theorem turn_zip{P:Program}{w:World}{K:PySem.W.Frag}{elts:List Expr}{kk:Nat}{pos:Pos}(a b z TI TO i1 i2:Addr)(D:ZipApart z TI TO i1 i2 a b) :
  Turn P w K (.Tuple elts kk pos) (Itz K a b) [z,TI,TO,i1,i2] z (fun i h=>IsZip h z TI TO .none/\IsPair h TI (.ref i1) (.ref i2)/\(∃ c d,IsPair h TO c d)/\h.IsListIter i1 a i/\h.IsListIter i2 b i) where
 mem:=by simp
 obj:=fun i h st c hc=>by
  obtain ⟨h1,h2,⟨x,y,h3⟩,⟨o4,e4,c4,d4⟩,⟨o5,e5,c5,d5⟩⟩:=st
  have hc':c=z\/c=TI\/c=TO\/c=i1\/c=i2:=by simpa using hc
  rcases hc' with rfl | rfl | rfl | rfl | rfl
  ·exact ⟨_,h1,fun v q=>by cases q⟩
  ·exact ⟨_,h2,fun v q=>by cases q⟩
  ·exact ⟨_,h3,fun v q=>by cases q⟩
  ·exact ⟨o4,e4,fun v q=>by rw [d4] at q;cases q⟩
  ·exact ⟨o5,e5,fun v q=>by rw [d5] at q;cases q⟩
 keep:=fun i h h' st k=>by
  obtain ⟨h1,h2,⟨x,y,h3⟩,h4,h5⟩:=st
  exact ⟨k z (by simp) _ h1,k TI (by simp) _ h2,⟨x,y,k TO (by simp) _ h3⟩,h4.at fun o e=>k i1 (by simp) o e,h5.at fun o e=>k i2 (by simp) o e⟩
 item:=by
  intro X hP hw hK hc i pins s σ H E I hf st hg
  subst hP hw hK
  obtain ⟨xs,ys,x,y,hq1,hq2,hx,hy⟩:=hg
  obtain ⟨its1,rv1,p1,hz1⟩:=I.list hq1
  obtain ⟨its2,rv2,p2,hz2⟩:=I.list hq2
  obtain ⟨u1,hu1,ru1⟩:=rv1.get hx
  obtain ⟨u2,hu2,ru2⟩:=rv2.get hy
  obtain ⟨sz,sTI,⟨c,d,sTO⟩,s1,s2⟩:=st
  refine wpAny_pyNext_zip_item D sz sTI sTO s1 s2 p1.isList p2.isList (x:=u1) (y:=u2) (by simpa using hu1) (by simpa using hu2) fun h' b1 b2 b3 b4 b5 b6 hk=>?_
  have lt:∀ {c o},s.heap.get? c=some o->c≠s.heap.objs.size:=fun e=>Nat.ne_of_lt (Heap.lt_size e)
  have I0:Inv X pins σ (upd H s.heap.objs.size (.tup [x,y])) { s with heap:=s.heap.push { cls:=.type "tuple",data:=.seq #[u1,u2] },toks:=s.toks } :=
   I.laid (a:=s.heap.objs.size) (o:=.tup [x,y]) (t':=s.toks) (fun b u e=>Heap.get?_push_of_some _ e) (Nat.le_refl _) ⟨zl2,[u1,u2],.cons ru1 (.cons ru2 .nil),_,Heap.get?_push_size _ rfl,rfl,_,rfl⟩
  have hnone:∀ c∈[z,TI,TO,i1,i2],(upd H s.heap.objs.size (.tup [x,y])) c=none:=fun c hc'=>by
   have hne:c≠s.heap.objs.size:=by
    have hc'':c=z\/c=TI\/c=TO\/c=i1\/c=i2:=by simpa using hc'
    rcases hc'' with rfl | rfl | rfl | rfl | rfl
    ·exact lt sz
    ·exact lt sTI
    ·exact lt sTO
    ·obtain ⟨_,e,_⟩:=s1;exact lt e
    ·obtain ⟨_,e,_⟩:=s2;exact lt e
   rw [y_a hne]
   exact (hf c hc').1
  have hf':∀ c∈[z,TI,TO,i1,i2],FpOk X pins (upd H s.heap.objs.size (.tup [x,y])) c:=fun c hc'=>⟨hnone c hc',(hf c hc').2⟩
  have kk1:∀ c o,c∉[z,TO,i1,i2]->(s.heap.push { cls:=.type "tuple",data:=.seq #[u1,u2] }).get? c=some o->h'.get? c=some o:=fun c o hn e=>by
   rcases Heap.get?_push_cases e with ⟨rfl,rfl⟩ | e'
   ·exact b5
   ·exact hk c o (fun q=>hn (by simp [q])) (fun q=>hn (by simp [q])) (fun q=>hn (by simp [q])) (fun q=>hn (by simp [q])) e'
  have kk2:∀ c∈[z,TO,i1,i2],FpOk X pins (upd H s.heap.objs.size (.tup [x,y])) c:=fun c hc'=>hf' c (by
   have hc'':c=z\/c=TO\/c=i1\/c=i2:=by simpa using hc'
   rcases hc'' with rfl | rfl | rfl | rfl<;>simp)
  have I1:=I0.turnedL (h':=h') (t':=s.toks) (ch:=[z,TO,i1,i2]) kk1 kk2
  refine ⟨_,rfl,wpAny_letOwnedTupleGo_zip b1 fun h2 c1 c2=>?_⟩
  have I2:=I1.turnedL (h':=h2) (t':=s.toks) (ch:=[z]) (fun c o hn e=>(c2.2 c (fun q=>hn (by simp [q]))).trans e) (fun c hc'=>hf' c (by rw [List.mem_singleton.mp hc'];simp))
  refine ⟨.ref s.heap.objs.size,_,I2,rfl,⟨_,x,y,rfl,I.hok.fresh (Nat.le_refl _),rfl,fun xs' q=>by rw [I.list_inj q hq1];exact hx,fun ys' q=>by rw [I.list_inj q hq2];exact hy⟩,?_,hnone⟩
  have mv:∀ c o,c≠z->h'.get? c=some o->h2.get? c=some o:=fun c o hn e=>(c2.2 c hn).trans e
  exact ⟨c1,mv _ _ D.TIz (hk _ _ D.TIz D.TITO D.TIi1 D.TIi2 sTI),⟨_,_,mv _ _ D.TOz b2⟩,b3.at fun o e=>mv _ o D.i1z e,b4.at fun o e=>mv _ o D.i2z e⟩
 done:=by
  intro X hP hw hK hc i pins s σ H E I hf st hg
  subst hP hw hK
  obtain ⟨xs,ys,hq1,hq2,hx⟩:=hg
  obtain ⟨its1,rv1,p1,hz1⟩:=I.list hq1
  obtain ⟨its2,rv2,p2,hz2⟩:=I.list hq2
  have l1:=rv1.length
  have l2:=rv2.length
  obtain ⟨sz,sTI,⟨c,d,sTO⟩,s1,s2⟩:=st
  refine wpAny_pyNext_zip_end (I.ok.hd hc) D sz sTI sTO s1 s2 p1.isList p2.isList ?_ fun h' hk=>⟨rfl,I.turnedL (t':=s.toks) (ch:=[z,TO,i1,i2]) (fun c o hn e=>hk c o (fun q=>hn (by simp [q])) (fun q=>hn (by simp [q])) (fun q=>hn (by simp [q])) (fun q=>hn (by simp [q])) e) (fun c hc'=>hf c ?_)⟩
  ·rcases hx with q | q
   ·exact .inl (by simp;lia)
   ·exact .inr (by simp;lia)
  ·have hc'':c=z\/c=TO\/c=i1\/c=i2:=by simpa using hc'
   rcases hc'' with rfl | rfl | rfl | rfl<;>simp
 self:=fun _ _ _ _ _ st h=>wpAny_pyIter_zip st.1 h
def iZip(K:PySem.W.Frag)(ta:TA):TI:=fun σ H R=>ta σ H fun vs H1=>∃ a b,vs=[.ref a,.ref b]/\(∃ xs,SqL K H1 a xs)/\(∃ ys,SqL K H1 b ys)/\R (Itz K a b) H1
theorem pi_zip{X:Cx}{elts:List Expr}{kk:Nat}{tpos:Pos}{a b:Expr}{ta:TA}{p pos:Pos}(hg:Gl X "zip")(hm:X.mg "zip" = none)(ha:PA X [a,b] ta)(hs:starEach [a,b] X.env=[(false,eval a X.env),(false,eval b X.env)]:=by rfl)(hs2:starEach [b] X.env=[(false,eval b X.env)]:=by rfl) :
  PI X (.Tuple elts kk tpos) (.Call (.Name "zip" p) [a,b] [] pos) (iZip X.K ta):=by
 intro pins s σ H R I h
 refine Call_ (q_h I hg hm PyProof.Rows.boot_zip (PyProof.Rows.callWith_type1 (thn (ha pos pins s σ H _ I h) fun us s1 ⟨vs,H1,I1,r1,q1⟩=>?_) (by rw [hs,hs2]) (by rw [hs2];rfl)))
 obtain ⟨l1,l2,e,⟨xs,hq1⟩,⟨ys,hq2⟩,q⟩:=q1
 subst e
 cases r1 with
 | cons r rr =>
  cases rr with
  | cons r' rr =>
   cases rr
   cases r
   cases r'
   obtain ⟨its1,rv1,p1,hz1⟩:=I1.list hq1
   obtain ⟨its2,rv2,p2,hz2⟩:=I1.list hq2
   have hlt1 : @LT.lt Nat _ l1 s1.heap.objs.size:=by obtain ⟨o,e,_⟩:=p1.isList;exact Heap.lt_size e
   have hlt2 : @LT.lt Nat _ l2 s1.heap.objs.size:=by obtain ⟨o,e,_⟩:=p2.isList;exact Heap.lt_size e
   refine call_zip_2 p1.isList p2.isList fun h' hz hTI hTO hi1 hi2 hsz hk=>wpAny_pyIter_zip hz ?_
   have D:ZipApart (s1.heap.objs.size+4) (s1.heap.objs.size+2) (s1.heap.objs.size+3) s1.heap.objs.size (s1.heap.objs.size+1) l1 l2:=PySem.W.ktu_apart _ _ _ hlt1 hlt2
   refine ⟨_,[s1.heap.objs.size+4,s1.heap.objs.size+2,s1.heap.objs.size+3,s1.heap.objs.size,s1.heap.objs.size+1],_,_,H1,rfl,I1.kept (t':=s1.toks) hk,turn_zip l1 l2 _ _ _ _ _ D,⟨hz,hTI,⟨_,_,hTO⟩,hi1,hi2⟩,fun c hc=>?_,q⟩
   have hc':c=s1.heap.objs.size+4\/c=s1.heap.objs.size+2\/c=s1.heap.objs.size+3\/c=s1.heap.objs.size\/c=s1.heap.objs.size+1:=by simpa using hc
   have hle : @LE.le Nat _ s1.heap.objs.size c:=by
    rcases hc' with rfl | rfl | rfl | rfl | rfl
    ·exact Nat.le_add_right _ _
    ·exact Nat.le_add_right _ _
    ·exact Nat.le_add_right _ _
    ·exact Nat.le_refl _
    ·exact Nat.le_add_right _ _
   exact I1.fpOk hle (I1.hok.fresh hle)
open PySem PySem.Spec PyProof.Rows
def rCatE:R2:=fun x y H Q=>∃ a b xs ys,x = .ref a/\y = .ref b/\H a=some (.tup xs)/\H b=some (.tup ys)/\xs.length+ys.length<=sizeLine/\∀ p H',Same H H'->H' p=some (.tup (xs++ys))->Q (.ref p) H'
theorem v_o{X:Cx}:OpR X (binaryOp .Add) rCatE:=by
 intro pins s σ H x y v u Q I rx ry h
 obtain ⟨a,b,xs,ys,rfl,rfl,ha,hb,hz,q⟩:=h
 by_cases he:xs=[]
 ·subst he
  cases rx
  cases ry
  obtain ⟨its,r1,p1,_⟩:=I.tuple (SqT.of ha)
  obtain ⟨its2,r2,p2,_⟩:=I.tuple (SqT.of hb)
  cases r1
  obtain ⟨⟨cls,dd,data,sl⟩,ho,hc,n,hd⟩:=id p1
  obtain ⟨⟨cls2,dd2,data2,sl2⟩,ho2,hc2,n2,hd2⟩:=id p2
  simp only at hc hd hc2 hd2
  subst hc hd hc2 hd2
  exact concat_meets ⟨_,ho,rfl⟩ ⟨_,ho2,rfl⟩ noFill_tuple_add seq_tuple_add PySem.F.slot_tuple_add PySem.F.entry_tuple_add (PySem.F.args_tuple_add_2 _ _)
   (tuple_addW0 a b _ _ n n2 dd dd2 sl sl2 (by simp)) ⟨ho,ho2,⟨.ref b,H,I,rfl,q b H (Same.refl H) hb⟩⟩
 ·exact op_catT pins s σ H _ _ v u Q I rx ry ⟨a,b,xs,ys,rfl,rfl,SqT.of ha,SqT.of hb,he,hz,fun e=>q a H (Same.refl H) (by rw [e,List.append_nil];exact ha),fun _ p hp=>q p _ (z_e hp _) z_c⟩
open PySem
def letterB(c:Nat):Bool:=decide (97<=c)&&decide (c<=122)
def nameD:PyData->Bool
 | .str z=>decide (1<=z.length)&&decide (z.length<=8)&&z.cps.toList.all letterB && !decide (z∈words)
 | _=>false
def widD(d:PyData):Bool:=betD d 1 8
def numD(d w:PyData):Bool:=match w with
 | .int k=>widD w&&betD d 0 (2^k.toNat-1)
 | _=>false
def numsD(d w:PyData):Bool:=match d with
 | .tuple ds=>(decide (ds.length=2) || decide (ds.length=4) || decide (ds.length=8) || decide (ds.length=16))&&ds.all fun x=>numD x w
 | _=>false
def restD(z:Str)(r:List PyData):Bool :=
 if z = "wire" then nameD (r.getD 0 .none) else if z = "number" then numD (r.getD 0 .none) (r.getD 1 .none) else if z = "up" \/ z = "down" then betD (r.getD 0 .none) 0 8
 else if z = "cut" then betD (r.getD 0 .none) 0 7&&widD (r.getD 1 .none) else if z = "table" then numsD (r.getD 1 .none) (r.getD 0 .none) else true
def formD:PyData->Bool
 | .tuple (.str z::r)=>decide (z∈words)&&decide (r.length+1=formN z)&&restD z r
 | _=>false
def subD:PyData->List PyData
 | .tuple (.str z::r)=>r.drop (formK z-1)
 | _=>[]
def bfs:Nat->List PyData->Nat->Bool
 | _,[],_=>true
 | 0,_::_,_=>false
 | n+1,x::r,p=>decide (p+(x::r).length<=40)&&(x::r).all formD&&bfs n ((x::r).flatMap subD) (p+(x::r).length)
def pcs:Nat->PyData->Nat
 | 0,_=>0
 | n+1,d=>if formD d&&(subD d).all (fun x=>decide (0<pcs n x)) then 1+((subD d).map (pcs n)).sum else 0
theorem pcs_pos{n:Nat}{d:PyData}:0<pcs (n+1) d↔formD d=true/\∀ x∈subD d,0<pcs n x:=by
 show 0<(if (formD d&&(subD d).all (fun x=>decide (0<pcs n x)))=true then 1+((subD d).map (pcs n)).sum else 0)↔_
 by_cases h:(formD d&&(subD d).all (fun x=>decide (0<pcs n x)))=true
 ·rw [if_pos h]
  have h':=Bool.and_eq_true_iff.mp h
  refine ⟨fun _=>⟨h'.1,fun x hx=>of_decide_eq_true (List.all_eq_true.mp h'.2 x hx)⟩,fun _=>by lia⟩
 ·rw [if_neg h]
  refine ⟨fun h=>absurd h (by lia),fun ⟨h1,h2⟩=>absurd ?_ h⟩
  rw [h1,Bool.true_and]
  exact List.all_eq_true.mpr fun x hx=>decide_eq_true (h2 x hx)
theorem u_d{n:Nat}{d:PyData}(h:0<pcs (n+1) d):pcs (n+1) d=1+((subD d).map (pcs n)).sum:=by
 have e:pcs (n+1) d=if (formD d&&(subD d).all (fun x=>decide (0<pcs n x)))=true then 1+((subD d).map (pcs n)).sum else 0:=rfl
 rw [e] at h ⊢
 split at h
 ·rename_i q;rw [if_pos q]
 ·lia
theorem n_k{n:Nat}:∀ {L:List PyData},(∀ x∈L,0<pcs (n+1) x)->(L.map (pcs (n+1))).sum=L.length+((L.flatMap subD).map (pcs n)).sum
 | [],_=>rfl
 | x::r,h=>by
  have ih:=n_k (n:=n) (L:=r) fun y hy=>h y (List.mem_cons_of_mem _ hy)
  rw [List.map_cons,List.sum_cons,ih,u_d (h x List.mem_cons_self),List.flatMap_cons,List.map_append,List.sum_append,List.length_cons]
  lia
theorem o_w:∀ {n:Nat} {L:List PyData} {p:Nat},p<=40->(bfs n L p=true↔(∀ x∈L,0<pcs n x)/\p+(L.map (pcs n)).sum<=40)
 | n,[],p,hp=>by
  have:bfs n [] p=true:=by cases n<;>rfl
  simp [this]
  exact hp
 | 0,x::r,p,hp=>by
  refine ⟨(fun h=>nomatch (show false=true from h)),fun h=>?_⟩
  have:=h.1 x List.mem_cons_self
  exact absurd this (by show ¬0<0;lia)
 | n+1,x::r,p,hp=>by
  show (decide (p+(x::r).length<=40)&&(x::r).all formD&&bfs n ((x::r).flatMap subD) (p+(x::r).length))=true↔_
  rw [Bool.and_eq_true_iff,Bool.and_eq_true_iff]
  constructor
  ·rintro ⟨⟨h1,h2⟩,h3⟩
   have h1:=of_decide_eq_true h1
   obtain ⟨q1,q2⟩:=(o_w h1).mp h3
   have good:∀ y∈x::r,0<pcs (n+1) y:=fun y hy=>pcs_pos.mpr ⟨List.all_eq_true.mp h2 y hy,fun t ht=>q1 t (List.mem_flatMap.mpr ⟨y,hy,ht⟩)⟩
   refine ⟨good,?_⟩
   rw [n_k good]
   lia
  ·rintro ⟨good,hs⟩
   rw [n_k good] at hs
   have h1:p+(x::r).length<=40:=by lia
   refine ⟨⟨decide_eq_true h1,List.all_eq_true.mpr fun y hy=>(pcs_pos.mp (good y hy)).1⟩,(o_w h1).mpr ⟨fun t ht=>?_,by lia⟩⟩
   obtain ⟨y,hy,ht'⟩:=List.mem_flatMap.mp ht
   exact (pcs_pos.mp (good y hy)).2 t ht'
def sayB(d:PyData):Bool:=decide (0<pcs 6 d/\pcs 6 d<=40)
theorem bfs_say(d:PyData):bfs 6 [d] 0=sayB d:=by
 have h:=o_w (n:=6) (L:=[d]) (p:=0) (by decide)
 simp at h
 unfold sayB
 by_cases q:bfs 6 [d] 0=true
 ·rw [q,decide_eq_true (h.mp q)]
 ·rw [Bool.eq_false_iff.mpr q,decide_eq_false (fun w=>q (h.mpr w))]
def szD:PyData->Bool
 | .str z=>decide (z.length<=100)
 | .tuple ds=>decide (ds.length<=100)&&szDs ds
 | .list ds=>szDs ds
 | _=>true
where szDs:List PyData->Bool
 | []=>true
 | d::r=>szD d&&szDs r
theorem szDs_all{ds:List PyData}:szD.szDs ds=true↔∀ d∈ds,szD d=true:=by
 induction ds with
 | nil=>simp [szD.szDs]
 | cons d r ih=>simp [szD.szDs,ih]
theorem szD_tup{ds:List PyData}:szD (.tuple ds)=true↔ds.length<=100/\∀ d∈ds,szD d=true:=by
 simp only [szD,Bool.and_eq_true,decide_eq_true_eq,szDs_all]
def u_c:Sp:=fun vs H Q _=>∃ d v,vs=[v]/\Dat H d v/\Q (.bl (match d with | .str z=>decide (z∈words) | _=>false)) H
def u_b:Sp:=fun vs H Q _=>∃ d v,vs=[v]/\Dat H d v/\szD d=true/\∀ H',Same H H'->Q (.bl (nameD d)) H'
def u_f:Sp:=fun vs H Q _=>∃ d v,vs=[v]/\Dat H d v/\Q (.bl (widD d)) H
def v_k:Sp:=fun vs H Q _=>∃ d v e u,vs=[v,u]/\Dat H d v/\Dat H e u/\Q (.bl (numD d e)) H
def t_d:Sp:=fun vs H Q _=>∃ d v e u,vs=[v,u]/\Dat H d v/\Dat H e u/\∀ H',Same H H'->Q (.bl (numsD d e)) H'
def o_n:Sp:=fun vs H Q _=>∃ d v,vs=[v]/\Dat H d v/\szD d=true/\∀ H',Same H H'->Q (.bl (formD d)) H'
def i_v:Sp:=fun vs H Q _=>∃ (p0:Addr) (z:Str) (r0:List V),vs=[.ref p0]/\H p0=some (.tup (.str z::r0))/\z∈words/\formK z<=r0.length+1/\∀ p H',Same H H'->H' p=some (.tup (r0.drop (formK z-1)))->Q (.ref p) H'
def r_u:Sp:=fun vs H Q _=>∃ d v,vs=[v]/\Dat H d v/\szD d=true/\∀ H',Same H H'->Q (.bl (sayB d)) H'
theorem ext_tup(D T:Addr)(xs ys:Array Value)(k j:Nat)(dd:Option Addr)(sl:Array (Option Value))(h0:¬(!xs.isEmpty&&Builtin.List.listTooLong (xs.size+ys.size))=true)(h1:xs.size<=sizeLine)(h2:xs.size+ys.size<=sizeLine+1) :
  Meets (Builtin.«list.extend» ⟨[.ref D,.ref T],[]⟩) (fun _ R s=>s.heap.get? D=some { cls:=.type "list",dict:=none,data:=.seq xs k,slots:=#[] }/\s.heap.get? T=some { cls:=.type "tuple",dict:=dd,data:=.seq ys j,slots:=sl } /\
   R (.ok (.ret Value.none)) { s with heap:=s.heap.update D (Obj.mapSeq fun x=>x++ys),toks:=s.toks }) :=
 .of_wp fun prog w A R s h=>by
  obtain ⟨hp,g,d,tk,os⟩:=s
  obtain ⟨hD,hT,h⟩:=h
  have f1:=AutoSeq1.idx_int
  have f2:=AutoSeq1.sub_tuple_tuple
  have f3:=AutoSeq1.sub_list_list
  have f4:=AutoSeq1.sub_tuple_list
  have f5:=AutoSeq1.sub_list_tuple
  have hz':(xs++ys).size<=sizeLine+1:=by rw [Array.size_append];exact h2
  wp_walk using (wpAny_updateSeq hD rfl (hz:=h1) (_hz':=hz')),wpAny_loadPart' hD,wpAny_loadPart' hT
  exact ⟨_,rfl,h⟩
def rExtendT:V->List V->Hp->VK->Prop:=fun x vs H Q=>∃ l b xs zs,x = .ref l/\vs=[.ref b]/\H l=some (.lst xs)/\H b=some (.tup zs)/\xs.length+zs.length<=sizeLine/\Q .non (upd H l (.lst (xs++zs)))
theorem l_v{X:Cx}:MtM X "list.extend" rExtendT:=by
 intro pins s σ H x vs v us Q I rx rv h
 obtain ⟨l,b,xs,zs,rfl,rfl,hH,hB,hz,q⟩:=h
 cases rx
 obtain ⟨u,rfl,ru⟩:=rv.one
 cases ru
 obtain ⟨z,its,n,r,hl,e⟩:=I.lstM hH
 obtain ⟨its2,r2,p2,_⟩:=I.tuple (SqT.of hB)
 have hl2:=r2.length
 obtain ⟨⟨cls,dd,data,sl⟩,ho,hc,n2,hd⟩:=id p2
 simp only at hc hd
 subst hc hd
 have hsz:its.toArray.size+its2.toArray.size<=sizeLine:=by rw [List.size_toArray,List.size_toArray];lia
 have hlong:¬(!its.toArray.isEmpty&&Builtin.List.listTooLong (its.toArray.size+its2.toArray.size))=true:=by
  rw [notLongL hsz,Bool.and_false];exact Bool.false_ne_true
 refine call_meets PySem.F.slot_list_extend ⟨_,e,rfl⟩ PySem.F.entry_list_extend (PySem.F.args_list_extend_2 _ _)
  (ext_tup l b its.toArray its2.toArray n n2 dd sl hlong (by rw [List.size_toArray];lia) (by lia)) ⟨e,ho,?_⟩
 refine ⟨.non,_,I.lset (its':=its++its2) hH e (by simp) (r.append r2) ?_,rfl,q⟩
 rw [List.length_append];lia
end L2
namespace HT
open PySem PyProof.Rows
section
variable {prog:Program} {w:World} {A:Around} {s:Shared} {E:Value->Shared->Prop}
theorem getItem_tuple_whole{t sl:Addr}{items:Array Value}{vl vu:Value}{lo hi:Option Int}{Q:Value->Shared->Prop}(ht:IsTup s.heap t items)(hs:s.heap.IsSliceOf sl vl vu .none)(pl:IsPart vl lo)(pu:IsPart vu hi)
  (hw:sIx items.size 0 lo=0/\sIx items.size items.size hi=items.size) (h:Q (.ref t) s):wpAny (model prog w) A (getItem (.ref t) (.ref sl)) Q E s:=by
 obtain ⟨os,hos,hcs,hds⟩:=id hs
 have hTs:s.TypeIs (.ref sl) "slice" := ⟨os,hos,hcs⟩
 unfold getItem
 try with_reducible refine wpAny_holding ?_
 first | refine wpAny_bind (wpAny_pure ?_) | skip
 refine wpAny_bind (wpAny_sequenceKey ht.typeIs (by decide) ?_)
 refine wpAny_bind (wpAny_callSpecial?_slot (name:=Str.ofString "__getitem__") ht.typeIs PyProof.Rows.slot_tuple_getitem
  (wpAny_call_entry PyProof.Rows.slot_tuple_getitem ht.typeIs entry_tuple_getitem ?_ (args_tuple_getitem _ _)))
 show wpAny _ _ (Builtin.Tuple.tupleItemsOf (.ref t) >>= _) _ _ s
 refine wpAny_bind (tupleItemsOf_ ht ?_)
 refine wpAny_bind (wpAny_typeOf hTs ?_)
 rw [if_pos (by decide)]
 refine wpAny_bind (u_i hs pl pu ?_)
 have hyes:((((sIx items.size 0 lo:Nat):Int) == 0&&(1:Int) == 1&&(sIx items.size items.size hi-sIx items.size 0 lo) == items.size)=true):=by
  rw [hw.1,hw.2]
  simp
 show wpAny _ _ (if (((sIx items.size 0 lo:Nat):Int) == 0&&(1:Int) == 1&&(sIx items.size items.size hi-sIx items.size 0 lo) == items.size)=true then _ else _) _ _ s
 rw [if_pos hyes]
 refine wpAny_bind (m:=Builtin.Tuple.tupleIsExact _) (wpAny_bind (wpAny_typeOf ht.typeIs (wpAny_pure ?_)))
 rw [if_pos (by decide)]
 exact wpAny_bind (wpAny_rule (wpAny_pure ⟨_,rfl,wpAny_pure h⟩))
end
end HT
namespace L2
open PySem PySem.Spec PyProof.Rows
def rSlE:V->Option Int->Option Int->Hp->VK->Prop:=fun x lo hi H Q=>∃ a xs,x = .ref a/\H a=some (.tup xs)/\∀ p H',Same H H'->H' p=some (.tup (cutV xs lo hi))->Q (.ref p) H'
theorem u_e{X:Cx}:SlR X rSlE:=by
 intro pins s σ H x v vl vu lo hi sl Q I rx hs pl pu h
 obtain ⟨a,xs,rfl,hx,q⟩:=h
 by_cases hw:HT.sIx xs.length 0 lo=0/\HT.sIx xs.length xs.length hi=xs.length
 ·cases rx
  obtain ⟨its,r,ht,hz⟩:=I.tuple (SqT.of hx)
  have hlen:its.toArray.size=xs.length:=by rw [List.size_toArray];exact r.length.symm
  refine ⟨"tuple",_,PyProof.Rows.slot_tuple_getitem.lookup,ht.typeIs,?_⟩
  refine HT.getItem_tuple_whole ht hs pl pu (by rw [hlen];exact hw) ?_
  refine ⟨.ref a,H,I,rfl,q a H (Same.refl H) ?_⟩
  have:cutV xs lo hi=xs:=by
   unfold cutV
   rw [hw.1,hw.2]
   simp
  rw [this]
  exact hx
 ·exact sl_tup pins s σ H _ v vl vu lo hi sl Q I rx hs pl pu ⟨a,xs,rfl,SqT.of hx,hw,fun p hp=>q p _ (z_e hp _) z_c⟩
end L2
namespace L2
open PySem PySem.Spec PyProof.Rows PySem.SeqAt MeetsSeq MeetsSeq2 MeetsSeq3
open AutoSeq1 (wpAny_loadPart')
end L2
namespace L2
open PySem PySem.Spec PyProof.Rows PySem.SeqAt MeetsSeq MeetsSeq2 MeetsSeq3
open AutoSeq1 (wpAny_loadPart')
open PySem PySem.Spec PyProof.Rows
open PySem
def nV(L:List Nat):List V:=L.map fun k:Nat=>V.int (k:Int)
theorem u_m{L:List Nat}:(nV L).length=L.length:=by unfold nV;simp
theorem s_j{K:PySem.W.Frag}{a:Addr}{S:V->St}{te:TE}{H:Hp}{Fin:List V->Hp->Prop}{xs:List V}(f:V->V)(hS:SqT K H a xs)(hz:xs.length<=100000)(hs:∀ x∈xs,∀ N:V->Hp->Prop,N (f x) H->te (S x) H N)(hd:Fin (xs.map f) H):CompW (Itt K a) S tYes te H Fin:=by
 refine w_e (xs:=xs) (fun i ys H'=>ys=(xs.take i).map f/\H=H') ⟨rfl,rfl⟩ ?_ ?_ ?_ ?_
 ·rintro i ys H' _ ⟨_,rfl⟩
  exact hS
 ·rintro i ys H' hi ⟨rfl,_⟩
  rw [List.length_map,List.length_take]
  exact y_j (by lia)
 ·rintro i x ys H' hx ⟨rfl,rfl⟩
  obtain ⟨hi,he⟩:=List.getElem?_eq_some_iff.mp hx
  unfold tYes
  dsimp only
  rw [if_pos rfl]
  refine hs x (he▸List.getElem_mem hi) _ ⟨?_,rfl⟩
  rw [List.take_succ_eq_append_getElem hi,List.map_append,he]
  rfl
 ·rintro ys H' ⟨rfl,rfl⟩
  rw [List.take_length]
  exact hd
theorem all_true(n:Nat):(List.replicate n true).all id=true:=by
 rw [List.all_eq_true]
 intro b hb
 rw [(List.mem_replicate.mp hb).2]
 rfl
theorem pi_or{X:Cx}{tg it:Expr}{w1 w2:TI}(h1:PI X tg it w1)(h2:PI X tg it w2):PI X tg it (fun σ H R=>w1 σ H R\/w2 σ H R):=by
 intro pins s σ H R I h
 rcases h with h | h
 ·exact h1 pins s σ H R I h
 ·exact h2 pins s σ H R I h
section
variable {X:Cx}
theorem o_s(k:Nat):∀ (n:Nat) (ts:List Str),Vals (ts.map V.str) (strValues (numbered n ts))
 | _,[]=>.nil
 | n,t::ts=>.cons ⟨_,rfl⟩ (o_s k (n+1) ts)
theorem q_o{pins:List (Addr×Obj)}{σ:St}{H:Hp}{s:Shared}{t':Nat}{xs:List V}{us:List Value}(I:Inv X pins σ H s)(r:Vals xs us)(hz:xs.length<=sizeLine) :
  Inv X pins σ (upd H s.heap.objs.size (.lst xs)) { s with heap:=s.heap.push { cls:=.type "list",data:=.seq us.toArray },toks:=t' } :=
 I.laid (t':=t') (o:=.lst xs) (fun b ob q=>Heap.get?_push_of_some _ q) (Nat.le_refl _) ⟨hz,us,0,r,Heap.get?_push_size _ rfl⟩
theorem m_h:MtR X "str.split" (fun x xs H Q=>∃ z y:Str,x = .str z/\xs=[.str y]/\(y.length == 0)=false/\z.length+2<=sizeLine/\∀ p,H p=none->Q (.ref p) (upd H p (.lst ((Txt.split z y).map V.str)))):=by
 intro pins s σ H x xs v us Q I rx r h
 obtain ⟨z,y,rfl,rfl,hy,hz,q⟩:=h
 obtain ⟨t,rfl⟩:=rx
 obtain ⟨u,rfl,ru⟩:=vals1 r
 obtain ⟨t',rfl⟩:=ru
 have hl:=StrLaws.occ_length_le z y 0 z.length (z.length+1)
 have hn:(Builtin.Str.partsBetween z (Builtin.Str.occurrences z y 0 z.length (z.length+1)) y.length).length<=sizeLine:=by
  unfold Builtin.Str.partsBetween
  rw [List.length_map,List.length_zip,List.length_cons,List.length_map,List.length_append]
  simp only [List.length_cons,List.length_nil]
  lia
 have q':=q s.heap.objs.size (I.hok.fresh (Nat.le_refl _))
 unfold Txt.split at q'
 cases h1:(decide (z.length<y.length) || decide (Builtin.Str.strKind z<Builtin.Str.strKind y)) with
 | true =>
  rw [h1,if_pos rfl] at q'
  exact call_meets F.slot_str_split (typeIs_str _ _ _) F.entry_str_split (F.args_str_split_2 _ _) (meets_str_split_cannot_occur z y t t' h1) ⟨.ref s.heap.objs.size,_,q_o (t':=s.toks) I (xs:=[.str z]) (us:=[.str z t]) (.cons ⟨_,rfl⟩ .nil) zl1,rfl,q'⟩
 | false =>
  rw [h1,if_neg Bool.false_ne_true] at q'
  cases hf:(Builtin.Str.occurrences z y 0 z.length (z.length+1)).isEmpty with
  | true =>
   rw [hf,if_pos rfl] at q'
   exact call_meets F.slot_str_split (typeIs_str _ _ _) F.entry_str_split (F.args_str_split_2 _ _) (meets_str_split_not_found z y t t' h1 hy hf) ⟨.ref s.heap.objs.size,_,q_o (t':=s.toks) I (xs:=[.str z]) (us:=[.str z t]) (.cons ⟨_,rfl⟩ .nil) zl1,rfl,q'⟩
  | false =>
   rw [hf,if_neg Bool.false_ne_true] at q'
   refine call_meets F.slot_str_split (typeIs_str _ _ _) F.entry_str_split (F.args_str_split_2 _ _) (meets_str_split_sep z y t t' h1 hy hf (by lia) hn) ?_
   have e:=strsFrom_eq s.toks (Builtin.Str.partsBetween z (Builtin.Str.occurrences z y 0 z.length (z.length+1)) y.length)
   show wants _ _ _ _
   rw [e]
   exact ⟨.ref s.heap.objs.size,_,q_o I (o_s 0 s.toks _) (by rw [List.length_map];exact hn),rfl,q'⟩
theorem k_s:CallR X (.type "int") (fun xs H Q=>∃ (x:Str) (n:Int),xs=[.str x]/\PySem.intText? x=some n/\x.length<=640/\Q (.int n) H):=by
 intro pins s σ H xs us Q I r h
 obtain ⟨x,n,rfl,hn,hl,q⟩:=h
 obtain ⟨u,rfl,t,rfl⟩:=vals1 r
 exact PySem.W.KIN.call_text hn hl ⟨.int n,H,I.tok _,⟨_,rfl⟩,q⟩
end
open PySem PySem.Spec PyProof.Rows
def jnT(c:Nat):List (List Nat)->List Nat
 | []=>[]
 | [x]=>x
 | x::y::r=>x++c::jnT c (y::r)
theorem n_y{c:Nat}:∀ {p q r t:List Nat},c∉p->c∉q->p++c::r=q++c::t->p=q/\r=t
 | [],[],_,_,_,_,h=>by simpa using h
 | [],b::q,_,_,_,hq,h=>by
  simp only [List.nil_append,List.cons_append,List.cons.injEq] at h
  exact absurd (by rw [h.1];exact List.mem_cons_self) hq
 | a::p,[],_,_,hp,_,h=>by
  simp only [List.nil_append,List.cons_append,List.cons.injEq] at h
  exact absurd (by rw [<-h.1];exact List.mem_cons_self) hp
 | a::p,b::q,r,t,hp,hq,h=>by
  simp only [List.cons_append,List.cons.injEq] at h
  obtain ⟨e1,e2⟩:=n_y (fun z=>hp (List.mem_cons_of_mem _ z)) (fun z=>hq (List.mem_cons_of_mem _ z)) h.2
  exact ⟨by rw [h.1,e1],e2⟩
theorem j_l{c:Nat}:∀ {ps qs:List (List Nat)},ps≠[]->qs≠[]->(∀ p∈ps,c∉p)->(∀ q∈qs,c∉q)->jnT c ps=jnT c qs->ps=qs
 | [],_,h,_,_,_,_=>absurd rfl h
 | _,[],_,h,_,_,_=>absurd rfl h
 | [x],[y],_,_,_,_,h=>by rw [show x=y from h]
 | [x],y::z::r,_,_,hp,_,h=>absurd (by rw [show x=y++c::jnT c (z::r) from h];simp) (hp x List.mem_cons_self)
 | y::z::r,[x],_,_,_,hq,h=>absurd (by rw [<-show y++c::jnT c (z::r)=x from h];simp) (hq x List.mem_cons_self)
 | x::y::r,u::v::t,_,_,hp,hq,h=>by
  obtain ⟨e1,e2⟩:=n_y (hp x List.mem_cons_self) (hq u List.mem_cons_self) (show x++c::jnT c (y::r)=u++c::jnT c (v::t) from h)
  rw [e1,j_l (by simp) (by simp) (fun p h=>hp p (List.mem_cons_of_mem _ h)) (fun q h=>hq q (List.mem_cons_of_mem _ h)) e2]
theorem t_f(c:Nat):∀ ws:List Str,(Str.join ⟨#[c]⟩ ws).cps.toList=jnT c (ws.map fun w=>w.cps.toList)
 | []=>rfl
 | [x]=>rfl
 | x::y::r=>by
  show ((x.cps ++ #[c])++(Str.join ⟨#[c]⟩ (y::r)).cps).toList=x.cps.toList++c::jnT c ((y::r).map fun w=>w.cps.toList)
  rw [<-t_f c (y::r)]
  simp
theorem split_ne(x y:Str):Txt.split x y≠[]:=by
 unfold Txt.split
 split
 ·simp
 ·split
  ·simp
  ·unfold Builtin.Str.partsBetween
   intro h
   have:=congrArg List.length h
   simp at this
theorem q_i{c:Nat}{ws:List Str}(hn:ws≠[])(hw:∀ w∈ws,c∉w.cps.toList):Txt.split (Str.join ⟨#[c]⟩ ws) ⟨#[c]⟩=ws:=by
 have h1:=StrLaws.join_split (Str.join ⟨#[c]⟩ ws) ⟨#[c]⟩
 have h2:=StrLaws.split_free (Str.join ⟨#[c]⟩ ws) c
 have h3:=congrArg (fun s:Str=>s.cps.toList) h1
 simp only [t_f] at h3
 have e:=j_l (c:=c) (ps:=(Txt.split (Str.join ⟨#[c]⟩ ws) ⟨#[c]⟩).map fun w=>w.cps.toList) (qs:=ws.map fun w=>w.cps.toList) (by simpa using split_ne _ _) (by simpa using hn) (fun p hp=>?_) (fun p hp=>?_) h3
 ·refine List.map_inj_right (f:=fun w:Str=>w.cps.toList) (fun a b h=>?_) |>.mp e
  cases a;cases b
  congr 1
  exact Array.toList_inj.mp h
 ·obtain ⟨w,hw',rfl⟩:=List.mem_map.mp hp
  exact h2 w hw'
 ·obtain ⟨w,hw',rfl⟩:=List.mem_map.mp hp
  exact hw w hw'
def nw(n:Nat):Str:=Str.ofString (toString (n:Int))
theorem s_p(n:Nat):(nw n).cps.toList=(Nat.toDigits 10 n).map Char.toNat:=PySem.W.KIN.signs_num n
theorem t_l{n c:Nat}(h:c∈(nw n).cps.toList):48<=c/\c<=57:=by
 rw [s_p] at h
 obtain ⟨ch,hch,rfl⟩:=List.mem_map.mp h
 exact digit_range (Nat.isDigit_of_mem_toDigits (by decide) (by decide) hch)
theorem nw_pos(n:Nat):1<=(nw n).length:=by
 have h:(nw n).length=(Nat.toDigits 10 n).length:=by
  show (nw n).cps.size=_
  rw [<-Array.length_toList,s_p,List.length_map]
 rw [h]
 exact toDigits_len_ge 10 n
theorem n_z:∀ (k n:Nat),n<10^(k+1)->(Nat.toDigits 10 n).length<=k+1
 | 0,n,h=>by rw [Nat.toDigits_of_lt_base (by simpa using h)];simp
 | k+1,n,h=>by
  by_cases h9:n<10
  ·rw [Nat.toDigits_of_lt_base h9];simp
  ·have t:Nat.toDigits 10 (n/10)++Nat.toDigits 10 (n%10)=Nat.toDigits 10 (10*(n/10)+n%10):=Nat.toDigits_append_toDigits (by decide) (by lia) (Nat.mod_lt n (by decide))
   rw [Nat.div_add_mod] at t
   rw [<-t,List.length_append,Nat.toDigits_of_lt_base (Nat.mod_lt n (by decide))]
   have:=n_z k (n/10) (by rw [Nat.pow_succ] at h;lia)
   simp only [List.length_cons,List.length_nil]
   lia
theorem w_i{n:Nat}(h:n<10^9):(nw n).length<=9:=by
 show (nw n).cps.size<=_
 rw [<-Array.length_toList,s_p,List.length_map]
 exact n_z 8 n h
theorem j_a:∀ (n:Nat),0<n->∃ c r,Nat.toDigits 10 n=c::r/\c.toNat≠48:=by
 intro n
 induction n using Nat.strongRecOn with
 | _ n ih =>
  intro h
  by_cases h9:n<10
  ·rw [Nat.toDigits_of_lt_base h9]
   refine ⟨_,_,rfl,?_⟩
   have:∀ d:Nat,d<10->0<d->(Nat.digitChar d).toNat≠48:=by decide
   exact this n h9 h
  ·have t:Nat.toDigits 10 (n/10)++Nat.toDigits 10 (n%10)=Nat.toDigits 10 (10*(n/10)+n%10):=Nat.toDigits_append_toDigits (by decide) (by lia) (Nat.mod_lt n (by decide))
   rw [Nat.div_add_mod] at t
   obtain ⟨c,r,e,hc⟩:=ih (n/10) (by lia) (by lia)
   rw [<-t,e]
   exact ⟨c,_,rfl,hc⟩
theorem nw_head{n:Nat}(h:0<n):∃ c r,(nw n).cps.toList=c::r/\c≠48:=by
 obtain ⟨c,r,e,hc⟩:=j_a n h
 rw [s_p,e]
 exact ⟨_,_,rfl,hc⟩
theorem j_u:nw 0 = "0" := by decide
theorem nw_reads{n:Nat}(h:n<10^9):PySem.intText? (nw n)=some (n:Int):=PySem.W.KIN.num_reads (by lia) (by lia)
def GW(t:Str):Prop:=t.length≠0/\32∉t.cps.toList/\10∉t.cps.toList/\t.length<=20
theorem GW.nw{n:Nat}(h:n<10^9):GW (nw n):=⟨by have:=nw_pos n;lia,fun z=>by have:=t_l z;lia,fun z=>by have:=t_l z;lia,by have:=w_i h;lia⟩
def rowT(ws:List Str):Str:=Str.join ⟨#[32]⟩ ws
def txt(rows:List (List Str)):Str:=Str.join ⟨#[10]⟩ (rows.map rowT)
theorem j_m{c d:Nat}(hd:d≠c):∀ {ps:List (List Nat)},(∀ p∈ps,d∉p)->d∉jnT c ps
 | [],_=>by simp [jnT]
 | [x],h=>h x List.mem_cons_self
 | x::y::r,h=>by
  show d∉x++c::jnT c (y::r)
  rw [List.mem_append,List.mem_cons]
  rintro (z | z | z)
  ·exact h x List.mem_cons_self z
  ·exact hd z
  ·exact j_m hd (fun p hp=>h p (List.mem_cons_of_mem _ hp)) z
theorem i_j{ws:List Str}(hn:ws≠[])(hw:∀ w∈ws,GW w):Txt.split (rowT ws) ⟨#[32]⟩=ws:=q_i hn fun w h=>(hw w h).2.1
theorem h_b{rows:List (List Str)}(hn:rows≠[])(hw:∀ ws∈rows,∀ w∈ws,GW w):Txt.split (txt rows) ⟨#[10]⟩=rows.map rowT:=by
 refine q_i (by simpa using hn) fun w h=>?_
 obtain ⟨ws,h1,rfl⟩:=List.mem_map.mp h
 unfold rowT
 rw [t_f]
 refine j_m (by decide) fun p hp=>?_
 obtain ⟨w,h2,rfl⟩:=List.mem_map.mp hp
 exact (hw ws h1 w h2).2.2.1
theorem m_g(sep:Str)(ts:List Str){m:Nat}(h:∀ t∈ts,t.length<=m)(hs:sep.length=1):(Str.join sep ts).length<=ts.length*(m+1):=by
 have h1:=StrLaws.join_length_le sep ts
 have h2:=StrLaws.sumLen_le ts h
 rw [hs] at h1
 rw [Nat.mul_add]
 lia
def sV(ws:List Str):List V:=ws.map V.str
theorem z_z(ws:List Str):(sV ws).length=ws.length:=List.length_map _
def TRw(H:Hp)(p:Addr)(rs:List Addr)(rows:List (List Str)):Prop:=H p=some (.lst (rs.map V.ref))/\Paired (fun r ws=>H r=some (.lst (sV ws))) rs rows
def s_a:Sp:=fun vs H Q _=>∃ n:Nat,vs=[.str (nw n)]/\n<10^9/\∀ H',Same H H'->Q (.bl true) H'
def w_s:Sp:=fun vs H Q _=>∃ n:Nat,vs=[.str (nw n)]/\n<10^9/\∀ H',Same H H'->Q (.int n) H'
def s_b:Sp:=fun vs H Q _=>∃ (l:Addr) (ns:List Nat),vs=[.ref l]/\H l=some (.lst (sV (ns.map nw)))/\(∀ n∈ns,n<10^9)/\ns.length<=20/\∀ p H',H p=none->Same H H'->H' p=some (.tup (nV ns))->Q (.ref p) H'
def u_g:Sp:=fun vs H Q _=>∃ (l:Addr) (ns:List Nat),vs=[.ref l]/\H l=some (.tup (nV ns))/\(∀ n∈ns,n<10^9)/\ns.length<=20/\∀ p,H p=none->Q (.ref p) (upd H p (.lst (sV (ns.map nw))))
def w_a:Sp:=fun vs H Q _=>∃ (r:Addr) (w:Str) (ws:List Str),vs=[.ref r,.int (ws.length:Nat)]/\H r=some (.lst (sV (w::ws)))/\∀ p,H p=none->Q (.ref p) (upd H p (.lst (sV ws)))
structure Secs(H:Hp)(rs:List Addr)(ws:List Str)(secs:List (List Addr)):Prop where
 len:secs.length=ws.length
 flat:secs.flatten=rs
 nd:ws.Nodup
 head:∀ (i:Nat) (sec:List Addr) (w:Str),secs[i]? = some sec->ws[i]? = some w->∀ r∈sec,∃ tl,H r=some (.lst (.str w::tl))
theorem Secs.same{H H':Hp}{rs:List Addr}{ws:List Str}{secs:List (List Addr)}(s:Same H H')(h:Secs H rs ws secs):Secs H' rs ws secs:=⟨h.len,h.flat,h.nd,fun i sec w h1 h2 r hr=>let ⟨tl,e⟩:=h.head i sec w h1 h2 r hr;⟨tl,s _ _ e⟩⟩
theorem flatS(ws:List Str):(sV ws).all flatV=true:=by
 unfold sV
 rw [List.all_map]
 exact List.all_eq_true.mpr fun _ _=>rfl
theorem noEmpty{ws:List Str}(h:∀ w∈ws,GW w):inV (.str "") (sV ws)=false:=by
 unfold inV sV
 rw [List.any_map,List.any_eq_false]
 intro w hw
 have hg:=(h w hw).1
 intro z
 have e:w = "" := by
  simpa [eqV] using z
 rw [e] at hg
 exact hg rfl
theorem flat_at{α:Type}{secs:List (List α)}{i:Nat}{sec:List α}(h:secs[i]? = some sec):secs.flatten=(secs.take i).flatten++sec++(secs.drop (i+1)).flatten:=by
 obtain ⟨hi,e⟩:=List.getElem?_eq_some_iff.mp h
 conv=>lhs;rw [<-List.take_append_drop i secs]
 rw [List.flatten_append,List.drop_eq_getElem_cons hi,e,List.flatten_cons,List.append_assoc]
theorem j_d{α:Type}{secs:List (List α)}{i:Nat}{sec:List α}(h:secs[i]? = some sec):(secs.take (i+1)).flatten=(secs.take i).flatten++sec:=by
 rw [List.take_add_one,h,List.flatten_append]
 simp
theorem Secs.behind{H:Hp}{rs:List Addr}{ws:List Str}{secs:List (List Addr)}(S:Secs H rs ws secs){i:Nat}{w:Str}(hw:ws[i]? = some w){r:Addr}(hr:r∈(secs.drop (i+1)).flatten):∃ u tl,u≠w/\H r=some (.lst (.str u::tl)):=by
 obtain ⟨sec,h1,h2⟩:=List.mem_flatten.mp hr
 obtain ⟨j,hj⟩:=List.getElem?_of_mem h1
 rw [List.getElem?_drop] at hj
 have hlt:i+1+j<ws.length:=by
  have:=(List.getElem?_eq_some_iff.mp hj).1
  have:=S.len
  lia
 obtain ⟨tl,e⟩:=S.head (i+1+j) sec ws[i+1+j] hj (List.getElem?_eq_getElem hlt) r h2
 refine ⟨_,tl,fun z=>?_,e⟩
 obtain ⟨hi,e2⟩:=List.getElem?_eq_some_iff.mp hw
 exact absurd (z.trans e2.symm) (fun y=>(List.pairwise_iff_getElem.mp S.nd i (i+1+j) hi hlt (by lia)) y.symm)
theorem dig_lo{c:Nat}(h:48<=c):decide ([c]<[48])=false:=decide_eq_false fun z=>by
 rcases List.cons_lt_cons_iff.mp z with y | y
 ·lia
 ·exact absurd y.2 (by simp)
theorem dig_hi{c:Nat}(h:c<=57):decide ([57]<[c])=false:=decide_eq_false fun z=>by
 rcases List.cons_lt_cons_iff.mp z with y | y
 ·lia
 ·exact absurd y.2 (by simp)
theorem e48:(Str.ofString "0").cps.toList=[48]:=by decide
theorem e57:(Str.ofString "9").cps.toList=[57]:=by decide
theorem e32:Str.ofString " " = ⟨#[32]⟩:=by decide
theorem e10:Str.ofString "\n" = ⟨#[10]⟩:=by decide
theorem n_a{xs:List V}{a b:Nat}(h:a<=b)(hb:b<=xs.length):cutV xs (some (a:Int)) (some (b:Int))=(xs.drop a).take (b-a):=by
 unfold cutV
 rw [HT.sIx_nat,HT.sIx_nat,Nat.min_eq_left hb,Nat.min_eq_left (by lia)]
theorem k_o{α:Type}{v:α}{r:List α}:atI (v::r) 0=some v:=z_t (j:=0) rfl
theorem pairedSplit{α β:Type}{R:α->β->Prop}:∀ {ys zs:List β} {xs:List α},Paired R xs (ys++zs)->∃ u v,xs=u++v/\Paired R u ys/\Paired R v zs
 | [],_,xs,h=>⟨[],xs,rfl,.nil,h⟩
 | y::ys,zs,_,.cons a b=>let ⟨u,v,e,h1,h2⟩:=pairedSplit b;⟨_::u,v,by rw [e];rfl,.cons a h1,h2⟩
open PySem
def natQ:PyData->Nat
 | .int i=>i.toNat
 | _=>0
def strD:PyData->Str
 | .str z=>z
 | _ => ""
def tupD:PyData->List PyData
 | .tuple ds=>ds
 | _=>[]
def numsW(ds:List PyData):List Str:=ds.map fun d=>nw (natQ d)
def sayW:Nat->PyData->List Str
 | 0,_=>[]
 | n+1,d=>match d with
  | .tuple (.str z::r)=>if z = "wire" then [strD (r.getD 0 .none)] else if z = "number" then [nw (natQ (r.getD 0 .none)) ++ ":" ++ nw (natQ (r.getD 1 .none))]
   else (if z = "table" then [z,nw (natQ (r.getD 0 .none)),nw (tupD (r.getD 1 .none)).length]++numsW (tupD (r.getD 1 .none)) else z::numsW (r.take (formK z-1)))++(r.drop (formK z-1)).flatMap (sayW n)
  | _=>[]
inductive PRw where
 | wire (n:Str) (w:Nat) (s:PyData)
 | box (n:Str) (w x:Nat) (s:PyData)
 | use (t:Option Nat) (p q:Str) (ss:List PyData) (ns:List Str)
def PRw.dat:PRw->PyData
 | .wire n w s=>.tuple [.str "wire",.str n,.int (w:Int),s]
 | .box n w x s=>.tuple [.str "box",.str n,.int (w:Int),.int (x:Int),s]
 | .use none p q ss ns=>.tuple [.str "part",.str p,.str q,.tuple ss,.tuple (ns.map PyData.str)]
 | .use (some t) p q ss ns=>.tuple [.str "times",.int (t:Int),.str p,.str q,.tuple ss,.tuple (ns.map PyData.str)]
def SyOk(s:PyData):Prop:=szD s=true/\sayB s=true/\noL s=true
def NmO(z:Str):Prop:=nameD (.str z)=true
def PRw.Ok:PRw->Prop
 | .wire n w s=>NmO n/\1<=w/\w<=8/\SyOk s
 | .box n w x s=>NmO n/\1<=w/\w<=8/\x<2^w/\SyOk s
 | .use t p q ss ns=>(∀ k,t=some k->1<=k/\k<=8)/\NmO p/\NmO q/\ss.length<=8/\ns.length<=8/\(∀ s∈ss,SyOk s)/\∀ z∈ns,NmO z
structure PPt where
 name:Str
 ins:List (Str×Nat)
 outs:List (Str×Nat)
 rows:List PRw
def portP(p:Str×Nat):PyData:=.tuple [.str p.1,.int (p.2:Int)]
def PPt.dat(p:PPt):PyData:=.tuple [.str p.name,.tuple (p.ins.map portP),.tuple (p.outs.map portP),.tuple (p.rows.map PRw.dat)]
def PtOk(p:Str×Nat):Prop:=NmO p.1/\1<=p.2/\p.2<=8
structure PPt.Ok(p:PPt):Prop where
 name:NmO p.name
 il:p.ins.length<=8
 ol:p.outs.length<=8
 rl:p.rows.length<=20
 ins:∀ q∈p.ins,PtOk q
 outs:∀ q∈p.outs,PtOk q
 rows:∀ r∈p.rows,r.Ok
def PRw.ws:PRw->List Str
 | .wire n w s=>(["wire",n,nw w, "="]:List Str)++sayW 6 s
 | .box n w x s=>(["box",n,nw w,nw x, "="]:List Str)++sayW 6 s
 | .use none p q ss ns=>(["use",p,q]:List Str)++ns++(["="]:List Str)++ss.flatMap (sayW 6)
 | .use (some t) p q ss ns=>(["times",nw t,p,q]:List Str)++ns++(["="]:List Str)++ss.flatMap (sayW 6)
def PPt.ws(p:PPt):List (List Str):=([["part",p.name]]:List (List Str))++p.ins.map (fun q=>(["in",q.1,nw q.2]:List Str))++p.outs.map (fun q=>(["out",q.1,nw q.2]:List Str))++p.rows.map PRw.ws++([["end"]]:List (List Str))
def plnW(ps:List PPt):List (List Str):=ps.flatMap PPt.ws
theorem NmO.sz{z:Str}(h:NmO z):1<=z.length/\z.length<=8:=by
 unfold NmO nameD at h
 simp only [Bool.and_eq_true,decide_eq_true_eq] at h
 exact ⟨h.1.1.1,h.1.1.2⟩
theorem NmO.let{z:Str}(h:NmO z){c:Nat}(hc:c∈z.cps.toList):97<=c/\c<=122:=by
 unfold NmO nameD at h
 simp only [Bool.and_eq_true,decide_eq_true_eq] at h
 have:=List.all_eq_true.mp h.1.2 c hc
 unfold letterB at this
 simp only [Bool.and_eq_true,decide_eq_true_eq] at this
 exact this
theorem NmO.word{z:Str}(h:NmO z):z∉words:=by
 unfold NmO nameD at h
 simp only [Bool.and_eq_true,Bool.not_eq_true',decide_eq_false_iff_not] at h
 exact h.2
theorem NmO.gw{z:Str}(h:NmO z):GW z:=⟨by have:=h.sz;lia,fun q=>by have:=h.let q;lia,fun q=>by have:=h.let q;lia,by have:=h.sz;lia⟩
theorem NmO.szd{z:Str}(h:NmO z):szD (.str z)=true:=by
 have:=h.sz
 simp only [szD]
 exact decide_eq_true (by lia)
theorem k_r{k:Nat}{lo hi:Nat}(h1:lo<=k)(h2:k<=hi):betD (.int (k:Int)) (lo:Int) (hi:Int)=true:=by
 unfold betD
 simp
 lia
theorem wid_ok{w:Nat}(h1:1<=w)(h8:w<=8):widD (.int (w:Int))=true:=k_r (lo:=1) (hi:=8) h1 h8
theorem num_ok{w x:Nat}(h1:1<=w)(h8:w<=8)(hx:x<2^w):numD (.int (x:Int)) (.int (w:Int))=true:=by
 show (widD (.int (w:Int))&&betD (.int (x:Int)) 0 (2^(w:Int).toNat-1))=true
 rw [wid_ok h1 h8,Bool.true_and,Int.toNat_natCast]
 have e:((2:Int)^w-1)=((2^w-1:Nat):Int):=by
  have:=Nat.one_le_two_pow (n:=w)
  rw [Int.natCast_sub this,Int.natCast_pow]
  rfl
 rw [e]
 exact k_r (lo:=0) (Nat.zero_le _) (by lia)
theorem o_t(n:Nat):(List.replicate n true).all id=true:=by simp
theorem s_e{xs:List V}{k:Nat}(h:k<=xs.length):cutV xs (some (k:Int)) none=xs.drop k:=by
 unfold cutV
 rw [HT.sIx_nat,Nat.min_eq_left h,HT.sIx_none,List.take_of_length_le (by rw [List.length_drop];exact Nat.le_refl _)]
def s_v:Sp:=fun vs H Q _=>∃ (p:Addr) (xs:List V) (k:Int),vs=[.ref p,.int k]/\H p=some (.tup xs)/\Q (.bl (decide ((xs.length:Int)=k))) H
def p_j:Sp:=fun vs H Q _=>∃ (p:Addr) (xs:List V) (k:Int),vs=[.ref p,.int k]/\H p=some (.tup xs)/\Q (.bl (decide ((xs.length:Int)<=k))) H
def r_s:Sp:=fun vs H Q _=>∃ (q:Str×Nat) (v:V),vs=[v]/\PtOk q/\Dat H (portP q) v/\∀ H',Same H H'->Q (.bl true) H'
def l_a:Sp:=fun vs H Q _=>∃ (p q:Str) (ss:List PyData) (ns:List Str) (v:V),vs=[v]/\(PRw.use none p q ss ns).Ok/\Dat H (.tuple [.str p,.str q,.tuple ss,.tuple (ns.map PyData.str)]) v/\∀ H',Same H H'->Q (.bl true) H'
def m_z:Sp:=fun vs H Q _=>∃ (r:PRw) (v:V),vs=[v]/\r.Ok/\Dat H r.dat v/\∀ H',Same H H'->Q (.bl true) H'
def o_o:Sp:=fun vs H Q _=>∃ (p:PPt) (v:V),vs=[v]/\p.Ok/\Dat H p.dat v/\∀ H',Same H H'->Q (.bl true) H'
def o_p:Sp:=fun vs H Q _=>∃ (l:Addr) (ps:List PPt) (xs:List V),vs=[.ref l]/\1<=ps.length/\ps.length<=6/\(∀ p∈ps,p.Ok)/\H l=some (.lst xs)/\Dats H (ps.map PPt.dat) xs/\∀ H',Same H H'->Q (.bl true) H'
theorem eqU_at{x:V}:∀ {xs:List V} {us:List Value},Vals xs us->xs.all flatV=true->∀ m (hm:m<us.length) y,xs[m]? = some y->eqU x us[m]=eqV y x
 | _,_,.nil,_,m,hm,_,_=>absurd hm (Nat.not_lt_zero _)
 | a::xs,u::us,.cons r t,f,0,_,y,hy=>by
  rw [List.all_cons,Bool.and_eq_true] at f
  cases hy
  exact j_b r f.1
 | a::xs,u::us,.cons r t,f,m+1,hm,y,hy=>by
  rw [List.all_cons,Bool.and_eq_true] at f
  exact eqU_at t f.2 m (Nat.lt_of_succ_lt_succ hm) y hy
section
variable {X:Cx}
def rIndexS:V->List V->Hp->VK->Prop:=fun x vs H Q=>∃ (l:Addr) (ws:List Str) (k:Str) (j:Nat),x = .ref l/\vs=[.str k]/\H l=some (.lst (sV ws))/\ws.length<=100000/\ws[j]? = some k/\(∀ m,m<j->ws[m]? ≠ some k)/\Q (.int (j:Int)) H
theorem j_q:MtM X "list.index" rIndexS:=by
 intro pins s σ H x vs v us Q I rx rv h
 obtain ⟨l,ns,k,j,rfl,rfl,hH,hn,hj,hno,q⟩:=h
 cases rx
 obtain ⟨u,rfl,ru⟩:=rv.one
 obtain ⟨z,its,n,r,hl,e⟩:=I.lstM hH
 have fl:(sV ns).all flatV=true:=flatS ns
 rw [z_z] at hl
 have hjl:=(List.getElem?_eq_some_iff.mp hj).1
 have at_:∀ m (hm:m<its.length) (a:Str),ns[m]? = some a->eqU (.str k) its[m]=decide (a=k):=fun m hm a ha=>by
  rw [eqU_at r fl m hm (.str a) (by unfold sV;rw [List.getElem?_map,ha];rfl)]
  rfl
 refine call_meets F.slot_list_index ⟨_,e,rfl⟩ F.entry_list_index (F.args_list_index_2 _ _) (PySem.SeqAt.list_indexAt l its.toArray n none #[] u (eqU (.str k)) j (by rw [List.size_toArray];lia) (by lia) ?_ ?_) ⟨e,fun y hy=>u_y ru rfl r fl y (by simpa using hy),?_⟩
 ·rw [List.getElem_toArray,at_ j (by lia) k hj,decide_eq_true rfl]
 ·intro m hm hmj
  rw [List.size_toArray] at hm
  rw [List.getElem_toArray,at_ m hm ns[m] (List.getElem?_eq_getElem (by lia))]
  exact decide_eq_false fun c=>hno m hmj (by rw [List.getElem?_eq_getElem (by lia),c])
 ·exact ⟨.int (j:Int),H,I.tok _,⟨_,rfl⟩,q⟩
def fndS(z y:Str):Int:=match Builtin.Str.occurrences z y 0 z.length 1 with | i::_=>(i:Int) | []=>-1
theorem mt_find:MtR X "str.find" (fun x xs H Q=>∃ z y:Str,x = .str z/\xs=[.str y]/\Q (.int (fndS z y)) H):=by
 intro pins s σ H x xs v us Q I rx r h
 obtain ⟨z,y,rfl,rfl,q⟩:=h
 obtain ⟨t,rfl⟩:=rx
 obtain ⟨u,rfl,ru⟩:=vals1 r
 obtain ⟨t',rfl⟩:=ru
 exact call_meets F.slot_str_find (typeIs_str _ _ _) F.entry_str_find (F.args_str_find_2 _ _) (PySem.gives_str_find z y t t').meets ⟨.int _,H,I.tok _,⟨_,rfl⟩,q⟩
end
end L2
namespace L2
open PySem
theorem q_j{d:PyData}{lo hi:Nat}(h:betD d (lo:Int) (hi:Int)=true):∃ k:Nat,d = .int (k:Int)/\lo<=k/\k<=hi:=by
 unfold betD at h
 cases d with
 | int k =>
  simp at h
  exact ⟨k.toNat,by congr 1;lia,by lia,by lia⟩
 | _=>cases h
theorem h_d{d:PyData}(h:widD d=true):∃ k:Nat,d = .int (k:Int)/\1<=k/\k<=8:=q_j (lo:=1) (hi:=8) h
theorem j_s{d:PyData}{w:Nat}(h:numD d (.int (w:Int))=true):∃ k:Nat,d = .int (k:Int)/\k<2^w:=by
 have h:(widD (.int (w:Int))&&betD d 0 (2^(w:Int).toNat-1))=true:=h
 rw [Bool.and_eq_true,Int.toNat_natCast] at h
 have p:=Nat.one_le_two_pow (n:=w)
 have e:((2:Int)^w-1)=((2^w-1:Nat):Int):=by
  rw [Int.natCast_sub p,Int.natCast_pow]
  rfl
 rw [e] at h
 obtain ⟨k,e1,_,e3⟩:=q_j (lo:=0) h.2
 exact ⟨k,e1,by lia⟩
theorem j_t{d e:PyData}(h:numD d e=true):∃ w:Nat,e = .int (w:Int)/\1<=w/\w<=8:=by
 unfold numD at h
 split at h
 ·rw [Bool.and_eq_true] at h
  exact h_d h.1
 ·cases h
theorem pow8{w x:Nat}(h:x<2^w)(h8:w<=8):x<256:=Nat.lt_of_lt_of_le h (show 2^w<=2^8 from Nat.pow_le_pow_right (by decide) h8)
theorem w_r{n:Nat}{d:PyData}(h:0<pcs (n+1) d):∃ z r,d = .tuple (.str z::r)/\z∈words/\r.length+1=formN z/\restD z r=true/\∀ x∈r.drop (formK z-1),0<pcs n x:=by
 obtain ⟨h1,h2⟩:=pcs_pos.mp h
 unfold formD at h1
 split at h1
 ·rename_i z r
  simp only [Bool.and_eq_true,decide_eq_true_eq] at h1
  exact ⟨z,r,rfl,h1.1.1,h1.1.2,h1.2,h2⟩
 ·cases h1
theorem t_p{r : List PyData}(hl : r.length + 1 = formN "wire")(h : restD "wire" r = true) : ∃ x, r = [.str x] /\ NmO x := by
  have hl : r.length = 1 := by have : formN "wire" = 2 := by decide
                               lia
  match r, hl with
  | [d], _ =>
    have h : nameD d = true := h
    cases d with
    | str x => exact ⟨x, rfl, h⟩
    | _ => cases h
theorem s_r{r : List PyData}(hl : r.length + 1 = formN "number")(h : restD "number" r = true) : ∃ a b : Nat, r = [.int (a : Int), .int (b : Int)] /\ 1 <= b /\ b <= 8 /\ a < 256 := by
  have hl : r.length = 2 := by have : formN "number" = 3 := by decide
                               lia
  match r, hl with
  | [d, e], _ =>
    have h : numD d e = true := h
    obtain ⟨b, rfl, b1, b8⟩ := j_t h
    obtain ⟨a, rfl, ha⟩ := j_s h
    exact ⟨a, b, rfl, b1, b8, pow8 ha b8⟩
theorem v_u{r : List PyData}(hl : r.length + 1 = formN "table")(h : restD "table" r = true) : ∃ (w : Nat) (ns : List Nat) (s : PyData), r = [.int (w : Int), .tuple (ns.map fun n : Nat => PyData.int (n : Int)), s] /\ 1 <= w /\ w <= 8 /\ 1 <= ns.length /\ ns.length <= 16 /\ ∀ n ∈ ns, n < 256 := by
  have hl : r.length = 3 := by have : formN "table" = 4 := by decide
                               lia
  match r, hl with
  | [d, e, s], _ =>
    have h : numsD e d = true := h
    unfold numsD at h
    cases e with
    | tuple ds =>
      simp only [Bool.and_eq_true, Bool.or_eq_true, decide_eq_true_eq] at h
      obtain ⟨h1, h2⟩ := h
      have h3 := List.all_eq_true.mp h2
      have hne : 1 <= ds.length /\ ds.length <= 16 := by lia
      obtain ⟨w, rfl, w1, w8⟩ : ∃ w : Nat, d = .int (w : Int) /\ 1 <= w /\ w <= 8 := by
        match ds, hne with
        | x :: _, _ => exact j_t (h3 x List.mem_cons_self)
      have go : ∀ {ds : List PyData}, (∀ x ∈ ds, numD x (.int (w : Int)) = true) -> ∃ ns : List Nat, ds = ns.map (fun n : Nat => PyData.int (n : Int)) /\ ∀ n ∈ ns, n < 256 := by
        intro ds
        induction ds with
        | nil => exact fun _ => ⟨[], rfl, (fun _ h => nomatch h)⟩
        | cons x ds ih =>
          intro hx
          obtain ⟨ns, e, hn⟩ := ih fun y hy => hx y (List.mem_cons_of_mem _ hy)
          obtain ⟨k, rfl, hk⟩ := j_s (hx x List.mem_cons_self)
          exact ⟨k :: ns, by rw [e]; rfl, fun n hm => (List.mem_cons.mp hm).elim (fun q => by rw [q]; exact pow8 hk w8) (hn n)⟩
      obtain ⟨ns, rfl, hn⟩ := go h3
      rw [List.length_map] at hne
      exact ⟨w, ns, s, rfl, w1, w8, hne.1, hne.2, hn⟩
    | _ => cases h
theorem r_i{z : Str}{r : List PyData}(hz : z ∈ words)(h1 : z ≠ "wire")(h2 : z ≠ "number")(h3 : z ≠ "table")(hl : r.length + 1 = formN z)(h : restD z r = true) :
    ∃ ns : List Nat, r.take (formK z - 1) = ns.map (fun n : Nat => PyData.int (n : Int)) /\ ns.length + 1 = formK z /\ ∀ n ∈ ns, n < 256 := by
  unfold restD at h
  rw [if_neg h1, if_neg h2] at h
  by_cases c1 : z = "up" \/ z = "down"
  · rw [if_pos c1] at h
    have hk : formK z = 2 := by rcases c1 with rfl | rfl <;> decide
    have hN : formN z = 3 := by rcases c1 with rfl | rfl <;> decide
    match r, (show r.length = 2 by lia) with
    | [d, e], _ =>
      obtain ⟨k, e1, _, k8⟩ := q_j (lo := 0) (hi := 8) (show betD d ((0 : Nat) : Int) ((8 : Nat) : Int) = true from h)
      refine ⟨[k], by rw [hk, e1]; rfl, by rw [hk]; rfl, fun n hn => by rw [List.mem_singleton.mp hn]; lia⟩
  · rw [if_neg c1] at h
    by_cases c2 : z = "cut"
    · subst c2
      rw [if_pos rfl, Bool.and_eq_true] at h
      match r, (show r.length = 3 by have : formN "cut" = 4 := by decide
                                     lia) with
      | [d, e, f], _ =>
        obtain ⟨k, e1, _, k8⟩ := q_j (lo := 0) (hi := 7) (show betD d ((0 : Nat) : Int) ((7 : Nat) : Int) = true from h.1)
        obtain ⟨k2, e2, _, k28⟩ := h_d (show widD e = true from h.2)
        refine ⟨[k, k2], by rw [e1, e2]; rfl, rfl, fun n hn => ?_⟩
        simp only [List.mem_cons, List.not_mem_nil, or_false] at hn
        lia
    · have hk : formK z = 1 := by
        unfold formK
        rw [if_neg h1, if_neg h2, if_neg (fun q => c1 (.inl q)), if_neg (fun q => c1 (.inr q)), if_neg c2, if_neg h3]
      exact ⟨[], by rw [hk]; rfl, by rw [hk]; rfl, (fun _ h => nomatch h)⟩
theorem t_k(ns:List Nat):numsW (ns.map fun n:Nat=>PyData.int (n:Int))=ns.map nw:=by
 unfold numsW
 rw [List.map_map]
 exact List.map_congr_left fun n _=>by show nw (n:Int).toNat=nw n;rw [Int.toNat_natCast]
theorem r_o(n:Nat)(x:Str):sayW (n+1) (.tuple [.str "wire",.str x])=[x]:=rfl
theorem s_s(n a b:Nat):sayW (n+1) (.tuple [.str "number",.int (a:Int),.int (b:Int)])=[nw a ++ ":" ++ nw b]:=by
 show [nw (a:Int).toNat ++ ":" ++ nw (b:Int).toNat]=_
 rw [Int.toNat_natCast,Int.toNat_natCast]
theorem t_b(n w:Nat)(ns:List Nat)(s:PyData):sayW (n+1) (.tuple [.str "table",.int (w:Int),.tuple (ns.map fun n:Nat=>PyData.int (n:Int)),s])=(["table",nw w,nw ns.length]:List Str)++ns.map nw++sayW n s:=by
 show ([("table" : Str),nw (w:Int).toNat,nw (ns.map fun n:Nat=>PyData.int (n:Int)).length]++numsW (ns.map fun n:Nat=>PyData.int (n:Int)))++([s].flatMap (sayW n))=_
 rw [Int.toNat_natCast,t_k,List.length_map]
 simp
theorem t_z{n:Nat}{z:Str}{r:List PyData}{ns:List Nat}(h1:z ≠ "wire")(h2:z ≠ "number")(h3:z ≠ "table")(e:r.take (formK z-1)=ns.map (fun n:Nat=>PyData.int (n:Int))):sayW (n+1) (.tuple (.str z::r))=z::ns.map nw++(r.drop (formK z-1)).flatMap (sayW n):=by
 show (if z = "wire" then _ else if z = "number" then _ else (if z = "table" then _ else z::numsW (r.take (formK z-1)))++(r.drop (formK z-1)).flatMap (sayW n))=_
 rw [if_neg h1,if_neg h2,if_neg h3,e,t_k]
theorem x_z:∀ {n:Nat} {d:PyData},0<pcs n d->(sayW n d).length<=19*pcs n d
 | 0,d,h=>absurd h (Nat.lt_irrefl 0)
 | n+1,d,h=>by
  have hv:=u_d h
  obtain ⟨z,r,rfl,hz,hl,hr,hs⟩:=w_r h
  have hsub:subD (.tuple (.str z::r))=r.drop (formK z-1):=rfl
  rw [hsub] at hv
  have go:∀ {L:List PyData},(∀ x∈L,0<pcs n x)->(L.flatMap (sayW n)).length<=19*(L.map (pcs n)).sum:=by
   intro L
   induction L with
   | nil=>exact fun _=>Nat.le_refl _
   | cons x L ih =>
    intro hx
    have h1:=x_z (hx x List.mem_cons_self)
    have h2:=ih fun y hy=>hx y (List.mem_cons_of_mem _ hy)
    rw [List.flatMap_cons,List.length_append,List.map_cons,List.sum_cons]
    lia
  by_cases c1:z = "wire"
  ·subst c1
   obtain ⟨x,rfl,_⟩:=t_p hl hr
   rw [r_o]
   show 1<=_
   lia
  by_cases c2:z = "number"
  ·subst c2
   obtain ⟨a,b,rfl,_⟩:=s_r hl hr
   rw [s_s]
   show 1<=_
   lia
  have g:=go hs
  by_cases c3:z = "table"
  ·subst c3
   obtain ⟨w,ns,s,rfl,_,_,_,h16,_⟩:=v_u hl hr
   have e1:([PyData.int (w:Int),.tuple (ns.map fun n:Nat=>PyData.int (n:Int)),s]:List PyData).drop (formK "table" - 1)=[s]:=rfl
   rw [e1] at g hv
   have e2:([s].flatMap (sayW n)).length=(sayW n s).length:=by simp
   rw [e2] at g
   rw [t_b,List.length_append,List.length_append,List.length_map]
   show 3+_+_<=_
   lia
  ·obtain ⟨ns,e,hk,_⟩:=r_i hz c1 c2 c3 hl hr
   have hk3:formK z<=3:=by
    unfold formK
    repeat' split
    all_goals lia
   rw [t_z c1 c2 c3 e,List.length_append,List.length_cons,List.length_map]
   lia
theorem t_c:∀ {L:List Nat} {x:Nat},x∈L->x<=L.sum
 | y::L,x,h=>by
  rw [List.sum_cons]
  rcases List.mem_cons.mp h with rfl | h
  ·lia
  ·have:=t_c h;lia
theorem x_f{k:Nat}(h:k<256):((k:Int)).natAbs.log2<1920:=by
 rw [Int.natAbs_natCast]
 exact s_g (k:=1920) (Nat.lt_of_lt_of_le h (Nat.le_trans (show 256<=2^8 by decide) (Nat.pow_le_pow_right (by decide) (by decide)))) (by decide)
theorem datsN{H:Hp}:∀ {ns:List Nat} {xs:List V},Dats H (ns.map fun n:Nat=>PyData.int (n:Int)) xs->xs=nV ns
 | [],xs,h=>by rw [h.nilI];rfl
 | n::ns,xs,h=>by
  obtain ⟨x,r,rfl,h1,h2⟩:=Dats.consI h
  rw [datsN h2,h1.intI]
  rfl
theorem u_k(z:Str):1<=formK z/\formK z<=3:=by
 unfold formK
 repeat' split
 all_goals decide
def p_k(n:Nat):Sp:=fun vs H Q _=>∃ (d:PyData) (v:V),vs=[v]/\0<pcs n d/\pcs n d<=40/\Dat H d v/\∀ p H',H p=none->Same H H'->H' p=some (.lst (sV (sayW n d)))->Q (.ref p) H'
theorem cut_sub{z:Str}{r0:List V}{k:Nat}(h1:1<=k)(h:k<=r0.length+1):cutV (V.str z::r0) (some (k:Int)) none=r0.drop (k-1):=by
 rw [s_e (by rw [List.length_cons];lia)]
 obtain ⟨j,rfl⟩:∃ j,k=j+1:=⟨k-1,by lia⟩
 rfl
theorem cut_hd{z:Str}{r0:List V}{k:Nat}(h1:1<=k)(h:k<=r0.length+1):cutV (V.str z::r0) (some 1) (some (k:Int))=r0.take (k-1):=by
 unfold cutV
 rw [show (some (1:Int))=some (((1:Nat)):Int) from rfl,HT.sIx_nat,HT.sIx_nat,Nat.min_eq_left (by rw [List.length_cons];lia),Nat.min_eq_left (by rw [List.length_cons];lia)]
 rfl
theorem w_g{ws:List Str}(hw:∀ w∈ws,GW w)(hl:ws.length<=800):(rowT ws).length<=16800:=by
 have h:=m_g ⟨#[32]⟩ ws (m:=20) (fun t ht=>(hw t ht).2.2.2) rfl
 unfold rowT
 have:ws.length*21<=800*21:=Nat.mul_le_mul_right _ hl
 lia
theorem txt_lenP{rows:List (List Str)}(hw:∀ ws∈rows,∀ w∈ws,GW w)(hl:∀ ws∈rows,ws.length<=800)(hr:rows.length<=200):(txt rows).length<=3400000:=by
 have h:=m_g ⟨#[10]⟩ (rows.map rowT) (m:=16800) (fun t ht=>by obtain ⟨ws,h1,rfl⟩:=List.mem_map.mp ht;exact w_g (hw ws h1) (hl ws h1)) rfl
 rw [List.length_map] at h
 unfold txt
 have:rows.length*16801<=200*16801:=Nat.mul_le_mul_right _ hr
 lia
structure TOkP(rows:List (List Str)):Prop where
 gw:∀ ws∈rows,∀ w∈ws,GW w
 len:∀ ws∈rows,ws.length<=800
 many:rows.length<=200
 full:∀ ws∈rows,ws≠[]
def r_t:Sp:=fun vs H Q _=>∃ rows:List (List Str),vs=[.str (txt rows)]/\rows≠[]/\TOkP rows/\∀ p rs H',H p=none->Same H H'->TRw H' p rs rows->Q (.ref p) H'
def r_v:Sp:=fun vs H Q _=>∃ (p:Addr) (rs:List Addr) (rows:List (List Str)),vs=[.ref p]/\TRw H p rs rows/\TOkP rows/\∀ H',Same H H'->Q (.str (txt rows)) H'
theorem SyOk.pcs{s:PyData}(h:SyOk s):0<pcs 6 s/\L2.pcs 6 s<=40:=of_decide_eq_true h.2.1
def i_w:Sp:=fun vs H Q _=>∃ (r:PRw) (v:V),vs=[v]/\r.Ok/\r.ws.length<=800/\Dat H r.dat v/\∀ p H',H p=none->Same H H'->H' p=some (.lst (sV r.ws))->Q (.ref p) H'
def l_d:Sp:=fun vs H Q _=>∃ (l:Addr) (ps:List PPt) (xs:List V),vs=[.ref l]/\(∀ p∈ps,p.Ok)/\TOkP (plnW ps)/\H l=some (.lst xs)/\Dats H (ps.map PPt.dat) xs/\∀ H',Same H H'->Q (.str (txt (plnW ps))) H'
theorem w_c(a b:List Str):sV (a++b)=sV a++sV b:=List.map_append
theorem strsD{H:Hp}:∀ {ns:List Str} {xs:List V},Dats H (ns.map PyData.str) xs->xs=sV ns
 | [],xs,h=>by rw [h.nilI];rfl
 | n::ns,xs,h=>by
  obtain ⟨x,r,rfl,h1,h2⟩:=Dats.consI h
  rw [strsD h2,show x = .str n by unfold Dat at h1;exact h1]
  rfl
def RwA(J:Hp)(pr:Addr)(rs:List Addr)(rows:List (List Str)):Prop:=J pr=some (.lst (rs.map V.ref))/\Paired (fun r ws=>r≠pr/\J r=some (.lst (sV ws))) rs rows
theorem RwA.push{J:Hp}{pr p:Addr}{rs:List Addr}{rows:List (List Str)}{ws:List Str}(h:RwA J pr rs rows)(hp:J p=none):RwA (upd (upd J p (.lst (sV ws))) pr (.lst (rs.map V.ref++[.ref p]))) pr (rs++[p]) (rows++[ws]):=by
 have np:p≠pr:=(z_r h.1 hp).symm
 refine ⟨by rw [z_c,List.map_append];rfl,x_o ⟨np,by rw [y_a np,z_c]⟩ (y_l (fun r v y=>⟨y.1,?_⟩) h.2)⟩
 rw [y_a y.1]
 exact z_e hp _ _ _ y.2
theorem RwA.ext{J J1:Hp}{pr:Addr}{rs rs2:List Addr}{rows rows2:List (List Str)}(h:RwA J pr rs rows)(s:Same J J1)(h2:Paired (fun r ws=>J r=none/\J1 r=some (.lst (sV ws))) rs2 rows2):RwA (upd J1 pr (.lst (rs.map V.ref++rs2.map V.ref))) pr (rs++rs2) (rows++rows2):=by
 refine ⟨by rw [z_c,List.map_append],pairedSn (y_l (fun r v y=>⟨y.1,by rw [y_a y.1];exact s _ _ y.2⟩) h.2) (y_l (fun r v y=>?_) h2)⟩
 have np:r≠pr:=(z_r h.1 y.1).symm
 exact ⟨np,by rw [y_a np];exact y.2⟩
theorem RwA.trw{J:Hp}{pr:Addr}{rs:List Addr}{rows:List (List Str)}(h:RwA J pr rs rows):TRw J pr rs rows:=⟨h.1,y_l (fun _ _ y=>y.2) h.2⟩
open PySem PySem.Spec PyProof.Rows
theorem q_k:(":" : Str)=⟨#[58]⟩:=by decide
theorem s_d(a b:Str):(a ++ ":" ++ b).cps.toList=a.cps.toList++58::b.cps.toList:=by
 show ((a.cps++(":" : Str).cps)++b.cps).toList=_
 rw [q_k]
 simp
theorem n_v(x:Str):(!(Builtin.Str.occurrences x ":" 0 x.length 1).isEmpty)=decide (58∈x.cps.toList):=by
 rw [q_k]
 exact StrLaws.found_one x 58
theorem j_e{a b:Str}(h:58∉a.cps.toList):fndS (a ++ ":" ++ b) ":" = (a.length:Int):=by
 unfold fndS
 have hc:=s_d a b
 have hat:∀ i,StrLaws.At (a ++ ":" ++ b) ":" (a ++ ":" ++ b).length i↔(a ++ ":" ++ b).cps.toList[i]? = some 58:=fun i=>by
  rw [q_k]
  exact StrLaws.subAt_one _ 58 i
 have hal:a.cps.toList.length=a.length:=Array.length_toList
 have h1:(a ++ ":" ++ b).cps.toList[a.length]? = some 58:=by rw [hc,List.getElem?_append_right (by lia),hal,Nat.sub_self];rfl
 rcases StrLaws.occ_head (a ++ ":" ++ b) ":" 1 (Nat.le_refl _) with ⟨_,hn⟩ | ⟨i,r,e,hi,hk⟩
 ·exact absurd ((hat a.length).mpr h1) (hn _)
 ·rw [e]
  show (i:Int)=_
  have h2:=(hat i).mp hi
  rcases Nat.lt_trichotomy i a.length with c | c | c
  ·rw [hc,List.getElem?_append_left (by lia)] at h2
   exact absurd (List.mem_of_getElem? h2) h
  ·rw [c]
  ·exact absurd ((hat a.length).mpr h1) (hk _ c)
theorem sl_to{a b:Str}:Txt.slice (a ++ ":" ++ b) none (some (a.length:Int))=a:=by
 have hc:=s_d a b
 have hal:a.cps.toList.length=a.length:=Array.length_toList
 have h:=slice_closes_to (x:=a ++ ":" ++ b) (j:=(a.length:Int)) ⟨by lia,by rw [hc,List.length_append,hal];lia⟩
 rw [eq_of_beq h,hc]
 have e:((a.length:Int)-0).toNat=a.cps.toList.length:=by lia
 rw [e,show (0:Int).toNat=0 from rfl,List.drop_zero,List.take_left]
theorem sl_fr{a b:Str}:Txt.slice (a ++ ":" ++ b) (some ((a.length:Int)+1)) none=b:=by
 have hc:=s_d a b
 have hal:a.cps.toList.length=a.length:=Array.length_toList
 have h:=slice_closes_from (x:=a ++ ":" ++ b) (i:=(a.length:Int)+1) ⟨by lia,by rw [hc,List.length_append,hal,List.length_cons];lia⟩
 rw [eq_of_beq h,hc]
 have e:((a.length:Int)+1).toNat=a.cps.toList.length+1:=by lia
 have e2:(a.cps.toList++58::b.cps.toList).drop (a.cps.toList.length+1)=b.cps.toList:=by
  rw [show a.cps.toList++58::b.cps.toList=(a.cps.toList++[58])++b.cps.toList by simp,show a.cps.toList.length+1=(a.cps.toList++[58]).length by simp,List.drop_left]
 rw [e,e2,List.take_of_length_le (by rw [List.length_append,List.length_cons];lia)]
theorem datsN'{H:Hp}:∀ ns:List Nat,Dats H (ns.map fun n:Nat=>PyData.int (n:Int)) (nV ns)
 | []=>.nil
 | n::ns=>.cons (.int _) (datsN' ns)
inductive Leaf:PyData->Str->Prop
 | wire {x:Str}:NmO x->Leaf (.tuple [.str "wire",.str x]) x
 | num {a b:Nat}:a<256->1<=b->b<=8->Leaf (.tuple [.str "number",.int (a:Int),.int (b:Int)]) (nw a ++ ":" ++ nw b)
def l_g:Sp:=fun vs H Q _=>∃ (r:Addr) (w x:Str) (k:Nat),vs=[.ref r]/\H r=some (.lst (sV [w,x,nw k]))/\k<10^9/\∀ t H',Same H H'->H' t=some (.tup [.str x,.int (k:Int)])->Q (.ref t) H'
def n_q:Sp:=fun vs H Q _=>∃ (d:PyData) (w:Str),vs=[.str w]/\Leaf d w/\∀ v H',Same H H'->Dat H' d v->Q v H'
def l_c:Sp:=fun vs H Q _=>∃ (l:Addr) (pre post:List Str) (ns:List Nat),vs=[.ref l,.int (pre.length:Int),.int ((pre.length+ns.length:Nat):Int)]/\H l=some (.lst (sV (pre++ns.map nw++post)))/\(∀ n∈ns,n<10^9)/\ns.length<=20/\∀ t H',Same H H'->H' t=some (.tup (nV ns))->Q (.ref t) H'
inductive Front:Str->List PyData->List Str->Prop
 | table {w:Nat} {ns:List Nat}:1<=w->w<=8->1<=ns.length->ns.length<=16->(∀ n∈ns,n<256)->Front "table" [.int (w:Int),.tuple (ns.map fun n:Nat=>PyData.int (n:Int))] ((["table",nw w,nw ns.length]:List Str)++ns.map nw)
 | node {z:Str} {ns:List Nat}:z∈words->z ≠ "wire" -> z ≠ "number" -> z ≠ "table" -> ns.length+1=formK z->(∀ n∈ns,n<256)->Front z (ns.map fun n:Nat=>PyData.int (n:Int)) (z::ns.map nw)
def p_g:Sp:=fun vs H Q _=>∃ (l:Addr) (pre post fr:List Str) (z:Str) (ds:List PyData),vs=[.ref l,.int (pre.length:Int)]/\H l=some (.lst (sV (pre++fr++post)))/\Front z ds fr/\∀ t v H',Same H H'->H' t=some (.tup [v,.int ((pre.length+fr.length:Nat):Int)])->Dat H' (.tuple (.str z::ds)) v->Q (.ref t) H'
def p_h(n:Nat):Sp:=fun vs H Q _=>∃ (l:Addr) (pre post:List Str) (d:PyData) (deep:Nat),vs=[.ref l,.int (pre.length:Int),.int (deep:Int)]/\deep+n<=20/\H l=some (.lst (sV (pre++sayW n d++post)))/\0<pcs n d/\pcs n d<=40/\∀ t v H',Same H H'->H' t=some (.tup [v,.int ((pre.length+(sayW n d).length:Nat):Int)])->Dat H' d v->Q (.ref t) H'
theorem s_t{n:Nat}{d:PyData}(h:0<pcs (n+1) d):(∃ w,Leaf d w/\sayW (n+1) d=[w])\/∃ z ds fr L rest,d = .tuple (.str z::(ds++L))/\Front z ds fr/\z∈words/\ds.length+1=formK z/\L.length+formK z=formN z/\(∀ x∈L,0<pcs n x)/\pcs (n+1) d=1+(L.map (pcs n)).sum/\sayW (n+1) d=fr++L.flatMap (sayW n)/\fr=z::rest:=by
 have hv:=u_d h
 obtain ⟨z,r,rfl,hz,hl,hr,hs⟩:=w_r h
 have hsub:subD (.tuple (.str z::r))=r.drop (formK z-1):=rfl
 rw [hsub] at hv
 by_cases c1:z = "wire"
 ·subst c1
  obtain ⟨x,rfl,hx⟩:=t_p hl hr
  exact .inl ⟨x,.wire hx,r_o n x⟩
 by_cases c2:z = "number"
 ·subst c2
  obtain ⟨a,b,rfl,b1,b8,ha⟩:=s_r hl hr
  exact .inl ⟨_,.num ha b1 b8,s_s n a b⟩
 refine .inr ?_
 have hkn:formK z<=formN z:=by
  have:∀ z∈words,formK z<=formN z:=by decide
  exact this z hz
 have hk1:=u_k z
 by_cases c3:z = "table"
 ·subst c3
  obtain ⟨w,ns,s,rfl,w1,w8,l1,l16,hn⟩:=v_u hl hr
  refine ⟨_,[.int (w:Int),.tuple (ns.map fun n:Nat=>PyData.int (n:Int))],_,[s],_,rfl,.table w1 w8 l1 l16 hn,hz,rfl,rfl,hs,hv,?_,rfl⟩
  rw [t_b]
  simp
 ·obtain ⟨ns,e,hk,hn⟩:=r_i hz c1 c2 c3 hl hr
  refine ⟨z,ns.map (fun n:Nat=>PyData.int (n:Int)),z::ns.map nw,r.drop (formK z-1),_,?_,.node hz c1 c2 c3 hk hn,hz,by rw [List.length_map];exact hk,by rw [List.length_drop];lia,hs,hv,t_z c1 c2 c3 e,rfl⟩
  rw [<-e,List.take_append_drop]
theorem j_o{d:PyData}{w:Str}(h:Leaf d w):w∉words:=by
 cases h with
 | wire hx=>exact hx.word
 | @num a b ha b1 b8 =>
  intro hm
  have h1:∀ z∈words,58∉z.cps.toList:=by decide
  exact h1 _ hm (by rw [s_d];simp)
theorem k_q{pre rest:List Str}{z:Str}:atI (sV (pre++z::rest)) (pre.length:Int)=some (.str z):=by
 refine z_t ?_
 unfold sV
 rw [List.getElem?_map,List.getElem?_append_right (Nat.le_refl _),Nat.sub_self]
 rfl
theorem t_a{n:Nat}{d:PyData}(h:0<pcs n d):1<=(sayW n d).length:=by
 cases n with
 | zero=>exact absurd h (Nat.lt_irrefl 0)
 | succ n =>
  rcases s_t h with ⟨w,_,e⟩ | ⟨z,ds,fr,L,rest,_,_,_,_,_,_,_,e,e2⟩
  ·rw [e];exact Nat.le_refl _
  ·rw [e,e2,List.length_append,List.length_cons];lia
def l_h:Sp:=fun vs H Q _=>∃ (l:Addr) (ds:List PyData),vs=[.ref l]/\H l=some (.lst (sV (ds.flatMap (sayW 6))))/\(∀ d∈ds,SyOk d)/\ds.length<=8/\∀ t xs H',Same H H'->H' t=some (.tup xs)->Dats H' ds xs->Q (.ref t) H'
def i_t:Sp:=fun vs H Q _=>∃ (l:Addr) (r:PRw),vs=[.ref l]/\r.Ok/\H l=some (.lst (sV r.ws))/\∀ v H',Same H H'->Dat H' r.dat v->Q v H'
def rowHd:PRw->List Str
 | .wire n w _=>["wire",n,nw w]
 | .box n w x _=>["box",n,nw w,nw x]
 | .use none p q _ ns=>(["use",p,q]:List Str)++ns
 | .use (some t) p q _ ns=>(["times",nw t,p,q]:List Str)++ns
def rowSs:PRw->List PyData
 | .wire _ _ s=>[s]
 | .box _ _ _ s=>[s]
 | .use _ _ _ ss _=>ss
theorem i_k(r:PRw):r.ws=rowHd r++(("=" : Str)::(rowSs r).flatMap (sayW 6)):=by
 cases r with
 | wire n w s=>show _++sayW 6 s=_++(("=" : Str)::[s].flatMap (sayW 6));simp [rowHd]
 | box n w x s=>show _++sayW 6 s=_++(("=" : Str)::[s].flatMap (sayW 6));simp [rowHd]
 | use t p q ss ns=>cases t<;>simp [PRw.ws,rowHd,rowSs]
theorem NmO.eq{z:Str}(h:NmO z):z ≠ "=" := fun e=>by
 have:=h.let (c:=61) (by rw [e];decide)
 lia
theorem nw_eq(n:Nat):nw n ≠ "=" := fun e=>by
 have:=t_l (n:=n) (c:=61) (by rw [e];decide)
 lia
theorem row_no{r:PRw}(ok:r.Ok):("=" : Str)∉rowHd r:=by
 intro h
 cases r with
 | wire n w s =>
  simp only [rowHd,List.mem_cons,List.not_mem_nil,or_false] at h
  rcases h with h | h | h
  ·exact absurd h (by decide)
  ·exact NmO.eq ok.1 h.symm
  ·exact nw_eq w h.symm
 | box n w x s =>
  simp only [rowHd,List.mem_cons,List.not_mem_nil,or_false] at h
  rcases h with h | h | h | h
  ·exact absurd h (by decide)
  ·exact NmO.eq ok.1 h.symm
  ·exact nw_eq w h.symm
  ·exact nw_eq x h.symm
 | use t p q ss ns =>
  obtain ⟨_,n1,n2,_,_,_,hns⟩:=ok
  cases t with
  | none =>
   simp only [rowHd,List.mem_append,List.mem_cons,List.not_mem_nil,or_false] at h
   rcases h with (h | h | h) | h
   ·exact absurd h (by decide)
   ·exact NmO.eq n1 h.symm
   ·exact NmO.eq n2 h.symm
   ·exact NmO.eq (hns _ h) rfl
  | some t =>
   simp only [rowHd,List.mem_append,List.mem_cons,List.not_mem_nil,or_false] at h
   rcases h with (h | h | h | h) | h
   ·exact absurd h (by decide)
   ·exact nw_eq t h.symm
   ·exact NmO.eq n1 h.symm
   ·exact NmO.eq n2 h.symm
   ·exact NmO.eq (hns _ h) rfl
theorem row_ss{r:PRw}(ok:r.Ok):(∀ s∈rowSs r,SyOk s)/\(rowSs r).length<=8:=by
 cases r with
 | wire n w s=>exact ⟨fun x hx=>by rw [List.mem_singleton.mp hx];exact ok.2.2.2,by show 1<=8;decide⟩
 | box n w x s=>exact ⟨fun y hy=>by rw [List.mem_singleton.mp hy];exact ok.2.2.2.2,by show 1<=8;decide⟩
 | use t p q ss ns=>exact ⟨ok.2.2.2.2.2.1,ok.2.2.2.1⟩
theorem strsN{H:Hp}:∀ ns:List Str,Dats H (ns.map PyData.str) (sV ns)
 | []=>.nil
 | n::ns=>.cons (.str _) (strsN ns)
def i_u:Sp:=fun vs H Q _=>∃ (p t:Addr) (rs0 rt:List Addr) (ws:List Str) (secs:List (List Addr)),vs=[.ref p,.ref t]/\H p=some (.lst ((rs0++rt).map V.ref))/\H t=some (.tup (sV ws))/\Secs H rs0 ws secs/\(∀ r∈rt,∃ u tl,u∉ws/\H r=some (.lst (.str u::tl)))/\(rs0++rt).length<=200/\ws.length<=10 /\
 ∀ q ps e H',H q=none->Same H H'->H' q=some (.lst ((ps++[e]).map V.ref))->Paired (fun a (sec:List Addr)=>H' a=some (.lst (sec.map V.ref))) ps secs->H' e=some (.lst (rt.map V.ref))->Q (.ref q) H'
def l_e:Sp:=fun vs H Q _=>∃ (p:Addr) (rs:List Addr) (P:PPt),vs=[.ref p]/\P.Ok/\H p=some (.lst (rs.map V.ref))/\Paired (fun r ws=>H r=some (.lst (sV ws))) rs (([["part",P.name]]:List (List Str))++P.ins.map (fun q=>(["in",q.1,nw q.2]:List Str))++P.outs.map (fun q=>(["out",q.1,nw q.2]:List Str))++P.rows.map PRw.ws)/\∀ v H',Same H H'->Dat H' P.dat v->Q v H'
def l_f:Sp:=fun vs H Q _=>∃ ps:List PPt,vs=[.str (txt (plnW ps))]/\1<=ps.length/\ps.length<=6/\(∀ p∈ps,p.Ok)/\TOkP (plnW ps)/\∀ l xs H',H l=none->Same H H'->H' l=some (.lst xs)->Dats H' (ps.map PPt.dat) xs->Q (.ref l) H'
theorem pairTk{α β:Type}{R:α->β->Prop}:∀ {xs:List α} {ys:List β} (k:Nat),Paired R xs ys->Paired R (xs.take k) (ys.take k)
 | _,_,0,_=>.nil
 | _,_,k+1,.nil=>.nil
 | _,_,k+1,.cons a b=>.cons a (pairTk k b)
theorem pairDr{α β:Type}{R:α->β->Prop}:∀ {xs:List α} {ys:List β} (k:Nat),Paired R xs ys->Paired R (xs.drop k) (ys.drop k)
 | _,_,0,h=>h
 | _,_,k+1,.nil=>.nil
 | _,_,k+1,.cons a b=>pairDr k b
def PPt.body(P:PPt):List (List Str):=([["part",P.name]]:List (List Str))++P.ins.map (fun q=>(["in",q.1,nw q.2]:List Str))++P.outs.map (fun q=>(["out",q.1,nw q.2]:List Str))++P.rows.map PRw.ws
theorem n_s(P:PPt):P.ws=P.body++([["end"]]:List (List Str)):=rfl
theorem body_hd{P:PPt}{ws:List Str}(h:ws∈P.body):∃ u tl,ws=u::tl/\u ≠ "end" := by
 unfold PPt.body at h
 simp only [List.mem_append,List.mem_map,List.mem_singleton] at h
 rcases h with ((rfl | ⟨q,_,rfl⟩) | ⟨q,_,rfl⟩) | ⟨r,_,rfl⟩
 ·exact ⟨_,_,rfl,by decide⟩
 ·exact ⟨_,_,rfl,by decide⟩
 ·exact ⟨_,_,rfl,by decide⟩
 ·cases r with
  | wire n w s=>exact ⟨_,_,rfl,by decide⟩
  | box n w x s=>exact ⟨_,_,rfl,by decide⟩
  | use t p q ss ns=>cases t<;>exact ⟨_,_,rfl,by decide⟩
theorem m_i(ns:List Str):noLs (ns.map PyData.str)=true:=x_g fun d hd=>by
 obtain ⟨x,_,rfl⟩:=List.mem_map.mp hd
 rfl
theorem v_s(ns:List (Str×Nat)):noLs (ns.map portP)=true:=x_g fun d hd=>by
 obtain ⟨x,_,rfl⟩:=List.mem_map.mp hd
 rfl
theorem n_c{r:PRw}(ok:r.Ok):noL r.dat=true:=by
 cases r with
 | wire n w s =>
  have h:=ok.2.2.2.2.2
  show noLs [.str "wire",.str n,.int (w:Int),s]=true
  simp [noLs,h,noL]
 | box n w x s =>
  have h:=ok.2.2.2.2.2.2
  show noLs [.str "box",.str n,.int (w:Int),.int (x:Int),s]=true
  simp [noLs,h,noL]
 | use t p q ss ns =>
  have h:noLs ss=true:=x_g fun d hd=>(ok.2.2.2.2.2.1 d hd).2.2
  have h2:=m_i ns
  cases t with
  | none =>
   show noLs [.str "part",.str p,.str q,.tuple ss,.tuple (ns.map PyData.str)]=true
   simp [noLs,noL,h,h2]
  | some t =>
   show noLs [.str "times",.int (t:Int),.str p,.str q,.tuple ss,.tuple (ns.map PyData.str)]=true
   simp [noLs,noL,h,h2]
theorem s_o{P:PPt}(ok:P.Ok):noL P.dat=true:=by
 have h1:=v_s P.ins
 have h2:=v_s P.outs
 have h3:noLs (P.rows.map PRw.dat)=true:=x_g fun d hd=>by
  obtain ⟨r,hr,rfl⟩:=List.mem_map.mp hd
  exact n_c (ok.rows r hr)
 show noLs [.str P.name,.tuple (P.ins.map portP),.tuple (P.outs.map portP),.tuple (P.rows.map PRw.dat)]=true
 simp [noLs,noL,h1,h2,h3]
theorem pairAll{α β:Type}{R S:α->β->Prop}:∀ {xs:List α} {ys:List β},Paired R xs ys->(∀ a b,a∈xs->R a b->S a b)->Paired S xs ys
 | _,_,.nil,_=>.nil
 | _,_,.cons a b,h=>.cons (h _ _ List.mem_cons_self a) (pairAll b fun x y hx hr=>h x y (List.mem_cons_of_mem _ hx) hr)
theorem j_k{c:Nat}:∀ {p q:List (List Nat)},p≠[]->q≠[]->jnT c (p++q)=jnT c p++c::jnT c q
 | [],_,h,_=>absurd rfl h
 | [x],[],_,h=>absurd rfl h
 | [x],y::q,_,_=>rfl
 | x::y::p,q,_,hq=>by
  show x++c::jnT c (y::p++q)=(x++c::jnT c (y::p))++c::jnT c q
  rw [j_k (by simp) hq]
  simp
theorem w_u{a b:Str}(h:a.cps.toList=b.cps.toList):a=b:=by
 cases a;cases b
 congr 1
 exact Array.toList_inj.mp h
theorem n_t:(" " : Str)=⟨#[32]⟩:=by decide
theorem w_x{a b:List Str}(ha:a≠[])(hb:b≠[]):rowT (a++b)=rowT a ++ " " ++ rowT b:=by
 refine w_u ?_
 have e:(rowT a ++ " " ++ rowT b).cps.toList=(rowT a).cps.toList++32::(rowT b).cps.toList:=by
  show ((rowT a).cps++(" " : Str).cps++(rowT b).cps).toList=_
  rw [n_t]
  simp
 rw [e]
 unfold rowT
 rw [t_f,t_f,t_f,List.map_append,j_k (by simpa using ha) (by simpa using hb)]
theorem x_d(a:Str):rowT [a]=a:=w_u (by unfold rowT;rw [t_f];rfl)
def itemW(n:Nat):PyData->List Str
 | .int i=>[nw i.toNat]
 | .tuple (.str z::r)=>sayW n (.tuple (.str z::r))
 | .tuple ds=>nw ds.length::numsW ds
 | _=>[]
theorem t_i{n:Nat}{d:PyData}(h:0<pcs n d):itemW n d=sayW n d:=by
 cases n with
 | zero=>exact absurd h (Nat.lt_irrefl 0)
 | succ n =>
  obtain ⟨z,r,rfl,_⟩:=w_r h
  rfl
theorem q_g{n:Nat}:∀ {L:List PyData},(∀ x∈L,0<pcs n x)->L.flatMap (itemW n)=L.flatMap (sayW n)
 | [],_=>rfl
 | x::L,h=>by
  rw [List.flatMap_cons,List.flatMap_cons,t_i (h x List.mem_cons_self),q_g fun y hy=>h y (List.mem_cons_of_mem _ hy)]
theorem q_f(n:Nat):∀ ns:List Nat,(ns.map fun k:Nat=>PyData.int (k:Int)).flatMap (itemW n)=ns.map nw
 | []=>rfl
 | k::ns=>by
  rw [List.map_cons,List.flatMap_cons,q_f n ns]
  show nw (k:Int).toNat::ns.map nw=_
  rw [Int.toNat_natCast]
  rfl
theorem i_n{n:Nat}{z:Str}{r:List PyData}(h:0<pcs (n+1) (.tuple (.str z::r)))(c1:z ≠ "wire")(c2:z ≠ "number"):sayW (n+1) (.tuple (.str z::r))=z::r.flatMap (itemW n) /\
  ∀ x∈r,(∃ k:Nat,x = .int (k:Int)/\k<256)\/0<pcs n x\/∃ ns:List Nat,x = .tuple (ns.map fun k:Nat=>PyData.int (k:Int))/\1<=ns.length/\ns.length<=16/\∀ k∈ns,k<256:=by
 obtain ⟨z',r',e,hz,hl,hr,hs⟩:=w_r h
 cases e
 by_cases c3:z = "table"
 ·subst c3
  obtain ⟨w,ns,s,rfl,w1,w8,l1,l16,hn⟩:=v_u hl hr
  have hs':0<pcs n s:=hs s (by show s∈[s];simp)
  constructor
  ·rw [t_b,List.flatMap_cons,List.flatMap_cons,List.flatMap_cons,List.flatMap_nil,t_i hs']
   have e1:itemW n (.int (w:Int))=[nw w]:=by show [nw (w:Int).toNat]=_;rw [Int.toNat_natCast]
   have e2:itemW n (.tuple (ns.map fun k:Nat=>PyData.int (k:Int)))=nw ns.length::ns.map nw:=by
    match ns,l1 with
    | k::ns,_ =>
     show nw ((k::ns).map fun k:Nat=>PyData.int (k:Int)).length::numsW ((k::ns).map fun k:Nat=>PyData.int (k:Int))=_
     rw [t_k,List.length_map]
   rw [e1,e2]
   simp
  ·intro x hx
   simp only [List.mem_cons,List.not_mem_nil,or_false] at hx
   rcases hx with rfl | rfl | rfl
   ·exact .inl ⟨w,rfl,by lia⟩
   ·exact .inr (.inr ⟨ns,rfl,l1,l16,hn⟩)
   ·exact .inr (.inl hs')
 ·obtain ⟨ns,e,hk,hn⟩:=r_i hz c1 c2 c3 hl hr
  have er:r=(ns.map fun k:Nat=>PyData.int (k:Int))++r.drop (formK z-1):=by rw [<-e,List.take_append_drop]
  constructor
  ·rw [t_z c1 c2 c3 e]
   conv=>rhs;rw [er]
   rw [List.flatMap_append,q_f,q_g hs]
   rfl
  ·intro x hx
   rw [er] at hx
   rcases List.mem_append.mp hx with hx | hx
   ·obtain ⟨k,hk',rfl⟩:=List.mem_map.mp hx
    exact .inl ⟨k,rfl,hn k hk'⟩
   ·exact .inr (.inl (hs x hx))
theorem itemW_ne{n:Nat}{x:PyData}(h:(∃ k:Nat,x = .int (k:Int)/\k<256)\/0<pcs n x\/∃ ns:List Nat,x = .tuple (ns.map fun k:Nat=>PyData.int (k:Int))/\1<=ns.length/\ns.length<=16/\∀ k∈ns,k<256):itemW n x≠[]:=by
 rcases h with ⟨k,rfl,_⟩ | h | ⟨ns,rfl,h1,_⟩
 ·simp [itemW]
 ·rw [t_i h]
  intro e
  have:=t_a h
  rw [e] at this
  exact absurd this (by decide)
 ·match ns,h1 with
  | k::ns,_=>simp [itemW]
def p_i(n:Nat):Sp:=fun vs H Q _=>∃ (d:PyData) (v:V),vs=[v]/\0<pcs n d/\pcs n d<=40/\Dat H d v/\∀ H',Same H H'->Q (.str (rowT (sayW n d))) H'
theorem l_n{z:Str}(h:z∈words):GW z:=by
 have:∀ z∈words,z.length≠0/\32∉z.cps.toList/\10∉z.cps.toList/\z.length<=20:=by decide
 exact this z h
theorem num_gw{a b:Nat}(ha:a<10^9)(hb:b<10^9):GW (nw a ++ ":" ++ nw b):=by
 have la:=w_i ha
 have lb:=w_i hb
 have hl:(nw a ++ ":" ++ nw b).length=(nw a).length+1+(nw b).length:=by rw [PySem.Str.length_append,PySem.Str.length_append];rfl
 refine ⟨by lia,fun h=>?_,fun h=>?_,by lia⟩<;>rw [s_d,List.mem_append,List.mem_cons] at h<;>rcases h with h | h | h
 ·have:=t_l h;lia
 ·lia
 ·have:=t_l h;lia
 ·have:=t_l h;lia
 ·lia
 ·have:=t_l h;lia
theorem m_l{ns:List Nat}(h:∀ n∈ns,n<256):∀ w∈ns.map nw,GW w:=fun w hw=>by
 obtain ⟨n,hn,rfl⟩:=List.mem_map.mp hw
 exact GW.nw (by have:=h n hn;lia)
theorem r_n:∀ {n:Nat} {d:PyData},0<pcs n d->∀ w∈sayW n d,GW w
 | 0,d,h=>absurd h (Nat.lt_irrefl 0)
 | n+1,d,h=>by
  intro w hw
  rcases s_t h with ⟨x,lf,e⟩ | ⟨z,ds,fr,L,rest,_,hf,hz,_,_,hs,_,e,_⟩
  ·rw [e,List.mem_singleton] at hw
   subst hw
   cases lf with
   | wire hx=>exact hx.gw
   | num ha b1 b8=>exact num_gw (by lia) (by lia)
  ·rw [e,List.mem_append] at hw
   rcases hw with hw | hw
   ·cases hf with
    | table w1 w8 l1 l16 hn =>
     rcases List.mem_append.mp hw with hw | hw
     ·simp only [List.mem_cons,List.not_mem_nil,or_false] at hw
      rcases hw with rfl | rfl | rfl
      ·exact l_n hz
      ·exact GW.nw (by lia)
      ·exact GW.nw (by lia)
     ·exact m_l hn w hw
    | node hz' _ _ _ _ hn =>
     rcases List.mem_cons.mp hw with rfl | hw
     ·exact l_n hz
     ·exact m_l hn w hw
   ·obtain ⟨x,hx,hw⟩:=List.mem_flatMap.mp hw
    exact r_n (hs x hx) w hw
theorem i_f(n:Nat)(k:Int):pcs n (.int k)=0:=by
 cases n<;>rfl
theorem pcs_ints{n:Nat}{ns:List Nat}:pcs n (.tuple (ns.map fun k:Nat=>PyData.int (k:Int)))=0:=by
 cases n with
 | zero=>rfl
 | succ n =>
  rcases Nat.eq_zero_or_pos (pcs (n+1) (.tuple (ns.map fun k:Nat=>PyData.int (k:Int)))) with h | h
  ·exact h
  ·obtain ⟨z,r,e,_⟩:=w_r h
   cases ns with
   | nil=>cases e
   | cons k ns=>cases e
theorem hd_sub{n:Nat}{z:Str}{r:List PyData}(hz:z∈words)(c1:z ≠ "wire")(c2:z ≠ "number")(hl:r.length+1=formN z)(hre:restD z r=true){x:PyData}(hx:x∈r)(h0:0<pcs n x):¬x∉r.drop (formK z-1):=by
 intro hn
 rw [<-List.take_append_drop (formK z-1) r] at hx
 rcases List.mem_append.mp hx with hx | hx
 ·by_cases c3:z = "table"
  ·subst c3
   obtain ⟨w,ns,s,rfl,_⟩:=v_u hl hre
   have hx:x∈[PyData.int (w:Int),.tuple (ns.map fun k:Nat=>PyData.int (k:Int))]:=hx
   simp only [List.mem_cons,List.not_mem_nil,or_false] at hx
   rcases hx with rfl | rfl
   ·rw [i_f] at h0;exact absurd h0 (Nat.lt_irrefl 0)
   ·rw [pcs_ints] at h0;exact absurd h0 (Nat.lt_irrefl 0)
  ·obtain ⟨ns,e,_⟩:=r_i hz c1 c2 c3 hl hre
   rw [e] at hx
   obtain ⟨k,_,rfl⟩:=List.mem_map.mp hx
   rw [i_f] at h0
   exact absurd h0 (Nat.lt_irrefl 0)
 ·exact hn hx
theorem i_y(a b c:Str):a++b++c=a++(b++c):=w_u (by
 show ((a.cps++b.cps)++c.cps).toList=(a.cps++(b.cps++c.cps)).toList
 simp)
theorem y_n{a b:Str}{l:List Str}:rowT (a::b::l)=a ++ " " ++ rowT (b::l):=by
 have h:=w_x (a:=[a]) (b:=b::l) (by simp) (by simp)
 rw [x_d] at h
 exact h
def l_i:Sp:=fun vs H Q _=>∃ (r:PRw) (v:V),vs=[v]/\r.Ok/\r.ws.length<=800/\Dat H r.dat v/\∀ H',Same H H'->Q (.str (rowT r.ws)) H'
def l_b:Sp:=fun vs H Q _=>∃ (l:Addr) (ps:List PPt) (xs:List V),vs=[.ref l]/\(∀ p∈ps,p.Ok)/\TOkP (plnW ps)/\H l=some (.lst xs)/\Dats H (ps.map PPt.dat) xs/\∀ H',Same H H'->Q (.str (txt (plnW ps))) H'
theorem t_j{z:Str}(h:z∈(["wire", "box", "use", "times", "=", "part", "in", "out", "end"]:List Str)):GW z:=by
 have:∀ z∈(["wire", "box", "use", "times", "=", "part", "in", "out", "end"]:List Str),z.length≠0/\32∉z.cps.toList/\10∉z.cps.toList/\z.length<=20:=by decide
 exact this z h
theorem hd_gw{r:PRw}(ok:r.Ok):∀ w∈rowHd r,GW w:=by
 intro w hw
 cases r with
 | wire n k s =>
  simp only [rowHd,List.mem_cons,List.not_mem_nil,or_false] at hw
  rcases hw with rfl | rfl | rfl
  ·exact t_j (by decide)
  ·exact NmO.gw ok.1
  ·exact GW.nw (by have:=ok.2.2.1;lia)
 | box n k x s =>
  simp only [rowHd,List.mem_cons,List.not_mem_nil,or_false] at hw
  rcases hw with rfl | rfl | rfl | rfl
  ·exact t_j (by decide)
  ·exact NmO.gw ok.1
  ·exact GW.nw (by have:=ok.2.2.1;lia)
  ·exact GW.nw (by have:=pow8 ok.2.2.2.1 ok.2.2.1;lia)
 | use t p q ss ns =>
  obtain ⟨k0,n1,n2,_,_,_,hns⟩:=ok
  cases t with
  | none =>
   simp only [rowHd,List.mem_append,List.mem_cons,List.not_mem_nil,or_false] at hw
   rcases hw with (rfl | rfl | rfl) | hw
   ·exact t_j (by decide)
   ·exact n1.gw
   ·exact n2.gw
   ·exact (hns w hw).gw
  | some t =>
   simp only [rowHd,List.mem_append,List.mem_cons,List.not_mem_nil,or_false] at hw
   rcases hw with (rfl | rfl | rfl | rfl) | hw
   ·exact t_j (by decide)
   ·exact GW.nw (by have:=(k0 t rfl).2;lia)
   ·exact n1.gw
   ·exact n2.gw
   ·exact (hns w hw).gw
theorem i_i{r:PRw}(ok:r.Ok):∀ w∈r.ws,GW w:=by
 intro w hw
 rw [i_k] at hw
 rcases List.mem_append.mp hw with hw | hw
 ·exact hd_gw ok w hw
 rcases List.mem_cons.mp hw with rfl | hw
 ·exact t_j (by decide)
 ·obtain ⟨s,hs,hw⟩:=List.mem_flatMap.mp hw
  exact r_n ((row_ss ok).1 s hs).pcs.1 w hw
theorem k_n{α:Type}(a n b c:List α)(i:Nat):(a++n.take i)++(n.drop i++b++c)=a++n++b++c:=by
 conv=>rhs;rw [<-List.take_append_drop i n]
 simp only [List.append_assoc]
theorem comp_zip{K:PySem.W.Frag}{n:Nat}{c:St}{g:TG}{tt:TT}{te:TE}{H:Hp}{Fin:List V->Hp->Prop}{a b:Addr}{xs us:List V}(Pv:Nat->List V->Hp->Prop)(h0:Pv 0 [] H)(hl:∀ i ys H,i<=xs.length->Pv i ys H->SqL K H a xs/\SqL K H b us)(he:xs.length=us.length)(hz:∀ i ys H,i<xs.length->Pv i ys H->ys.length<sizeLine)
  (hs:∀ i x y p ys H (os:St),os.length=n->xs[i]? = some x->us[i]? = some y->Pv i ys H->H p=none->g (.ref p) (os++c) (upd H p (.tup [x,y])) fun σ2 H2=>tt σ2 H2 fun b H3=>if b=true then te σ2 H3 fun y H4=>Pv (i+1) (ys++[y]) H4 else Pv (i+1) ys H3)
  (hd:∀ ys H,Pv xs.length ys H->Fin ys H):CompG (Itz K a b) n c g tt te H Fin:=by
 refine ⟨fun i m ys H=>m=xs.length-i/\i<=xs.length/\Pv i ys H,⟨xs.length,by simp,Nat.zero_le _,h0⟩,?_⟩
 rintro i m ys H ⟨rfl,hi,p⟩
 obtain ⟨q1,q2⟩:=hl i ys H hi p
 by_cases hlt:i<xs.length
 ·have hlt2:i<us.length:=by lia
  refine .inr ⟨⟨xs,us,xs[i],us[i],q1,q2,by simp [hlt],by simp [hlt2]⟩,hz i ys H hlt p,Pv (i+1),fun ys' H' p'=>⟨xs.length-(i+1),by lia,rfl,hlt,p'⟩,fun v H' y os hos=>?_⟩
  obtain ⟨pp,x,y,rfl,hp,rfl,e1,e2⟩:=y
  exact hs i x y pp ys H os hos (e1 xs q1) (e2 us q2) p hp
 ·have e:i=xs.length:=by lia
  subst e
  exact .inl ⟨⟨xs,us,q1,q2,.inl (Nat.le_refl _)⟩,hd ys H p⟩
theorem Paired.at{α β:Type}{R:α->β->Prop}:∀ {xs:List α} {ps:List β} {i:Nat} {x:α},Paired R xs ps->xs[i]? = some x->∃ p,ps[i]? = some p/\R x p
 | _,_,_,_,.nil,h=>by cases h
 | _,_,0,_,.cons r _,h=>by cases h;exact ⟨_,rfl,r⟩
 | _,_,i+1,_,.cons _ t,h=>Paired.at (i:=i) t h
theorem o_z{K:PySem.W.Frag}{a:Addr}{S:V->St}{te:TE}{H:Hp}{Fin:List V->Hp->Prop}{α:Type}{R:Addr->α->Prop}{rs:List Addr}{ps:List α}(f:α->V)(hS:SqL K H a (rs.map V.ref))(hp:Paired R rs ps)(hz:rs.length<=100000)(hs:∀ r p,R r p->p∈ps->∀ N:V->Hp->Prop,N (f p) H->te (S (.ref r)) H N)(hd:Fin (ps.map f) H):CompW (Itl K a) S tYes te H Fin:=by
 have hl:=Paired.length hp
 refine w_h (xs:=rs.map V.ref) (fun i ys H'=>ys=(ps.take i).map f/\H=H') ⟨rfl,rfl⟩ ?_ ?_ ?_ ?_
 ·rintro i ys H' _ ⟨_,rfl⟩
  exact hS
 ·rintro i ys H' hi ⟨rfl,_⟩
  rw [List.length_map,List.length_take]
  rw [List.length_map] at hi
  exact y_j (by lia)
 ·rintro i x ys H' hx ⟨rfl,rfl⟩
  rw [List.getElem?_map] at hx
  obtain ⟨r,hr,rfl⟩:=Option.map_eq_some_iff.mp hx
  obtain ⟨p,hpi,hR⟩:=Paired.at hp hr
  unfold tYes
  dsimp only
  rw [if_pos rfl]
  refine hs r p hR (List.mem_of_getElem? hpi) _ ⟨?_,rfl⟩
  rw [y_f hpi,List.map_append]
  rfl
 ·rintro ys H' ⟨rfl,rfl⟩
  rw [List.length_map,hl,List.take_length]
  exact hd
section
variable {X:Cx}
theorem l_s{pins:List (Addr×Obj)}{σ:St}{H:Hp}{s:Shared}{A:Around}{E:Value->Shared->Prop}{Q:Value->Shared->Prop}{b:Bool}{x:V}{u t:Value}{tp:Addr}{dd:Option Addr}{its:List Value}{n:Nat}{sl:Array (Option Value)}
  (I:Inv X pins σ H s) (rx:RelV x u) (ty:TyOf X.K H x t) (htp:s.heap.get? tp=some ⟨.type "tuple",dd,.seq its.toArray n,sl⟩) (e:PySem.W.kitAny X.K t its=some b) (h:∀ tk,Q (.bool b) { s with toks:=tk }) :
  wpAny (model X.prog X.w) A (call (.builtin "isinstance") [u,.ref tp]) Q E s:=by
 cases ty with
 | non=>cases (show u=Value.none from rx);exact kia_tup PySem.W.kitx_none I.kIn True.intro htp e (fun z=>nomatch z) h
 | bl y=>cases (show u=Value.bool y from rx);exact kia_tup PySem.W.kitx_bool I.kIn True.intro htp e (fun z=>nomatch z) h
 | int i=>obtain ⟨t,q⟩:=(show ∃ t,u=Value.int i t from rx);cases q;exact kia_tup PySem.W.kitx_int I.kIn True.intro htp e (fun z=>nomatch z) h
 | str y=>obtain ⟨t,q⟩:=(show ∃ t,u=Value.str y t from rx);cases q;exact kia_tup PySem.W.kitx_str I.kIn True.intro htp e (fun z=>nomatch z) h
 | flt y=>obtain ⟨t,q⟩:=(show ∃ t,u=Value.float y t from rx);cases q;exact kia_tup PySem.W.kitx_float I.kIn True.intro htp e (fun z=>nomatch z) h
 | @lst a xs ea =>
  cases (show u=Value.ref a from rx)
  obtain ⟨_,_,n,_,h1⟩:=(show ObjOk X.prog X.w H s.heap a (.lst xs) from I.hok a _ ea)
  exact kia_tup kitx_list I.kIn ⟨_,h1,rfl⟩ htp e (fun z=>nomatch z) h
 | @frz a ob xs ea =>
  cases (show u=Value.ref a from rx)
  obtain ⟨_,_,_,n,_,h1⟩:=(show ObjOk X.prog X.w H s.heap a (.frz ob (.lst xs)) from I.hok a _ ea)
  exact kia_tup kitx_list I.kIn ⟨_,h1,rfl⟩ htp e (fun z=>nomatch z) h
 | @tup a xs ea =>
  cases (show u=Value.ref a from rx)
  obtain ⟨_,_,_,p⟩:=(show ObjOk X.prog X.w H s.heap a (.tup xs) from I.hok a _ ea)
  obtain ⟨o,h1,h2,_⟩:=p
  exact kia_tup PySem.W.kitx_tuple I.kIn ⟨o,h1,h2⟩ htp e (fun z=>nomatch z) h
 | @dK a kvs ea =>
  cases (show u=Value.ref a from rx)
  obtain ⟨_,_,vs,_,p⟩:=(show ObjOk X.prog X.w H s.heap a (.dK kvs) from I.hok a _ ea)
  obtain ⟨o,es,ep,h1,h2,_⟩:=p
  exact kia_tup kitx_dict I.kIn ⟨o,h1,h2.1⟩ htp e (fun z=>nomatch z) h
 | @dT a kvs ea =>
  cases (show u=Value.ref a from rx)
  obtain ⟨_,_,xs,_,o,es,ep,h1,h2,_⟩:=(show ObjOk X.prog X.w H s.heap a (.dT kvs) from I.hok a _ ea)
  exact kia_tup kitx_dict I.kIn ⟨o,h1,h2.1⟩ htp e (fun z=>nomatch z) h
 | @ins a C dx fs ea cl ha hn htk hm =>
  cases (show u=Value.ref a from rx)
  obtain ⟨mA,O,_⟩:=j_g I.hok ea
  obtain ⟨od,J,_⟩:=O.look
  exact kia_tup (PySem.W.kitx_own (cl.get _) cl.hd ha hn htk hm) I.kIn J htp e (fun z=>nomatch z) h
theorem q_d{K:PySem.W.Frag}(hK:X.K=K){S T:String}:CallR X (.builtin "isinstance") (fun xs H Q=>∃ x p t b,xs=[x,.ref p]/\H p=some (.tup [.ty S,.ty T])/\TyOf K H x t/\PySem.W.kitAny K t [.type S,.type T]=some b/\Q (.bl b) H):=by
 subst hK
 intro pins s σ H xs us Q I r h
 obtain ⟨x,p,t,b,rfl,hp,ty,e,q⟩:=h
 obtain ⟨u,w',rfl,rx,rt⟩:=vals2 r
 cases (show w'=Value.ref p from rt)
 obtain ⟨_,its,rv,ob,e1,e2,n,e3⟩:=(show ObjOk X.prog X.w H s.heap p (.tup [.ty S,.ty T]) from I.hok p _ hp)
 obtain ⟨a,b',rfl,ra,rb⟩:=vals2 rv
 cases (show a=Value.type S from ra)
 cases (show b'=Value.type T from rb)
 obtain ⟨cl,dd,da,sl⟩:=ob
 dsimp only at e2 e3
 subst e2 e3
 exact l_s I rx ty e1 e fun tk=>⟨.bl b,H,I.tok _,rfl,q⟩
end
open PySem PySem.Spec PyProof.Rows
end L2
set_option maxHeartbeats 4000000
namespace L2
open PySem
theorem two_ad{α:Type}{l:List α}(h:l.length=2):∃ a b,l=[a,b]:=by
 obtain ⟨a,r,rfl⟩:=List.exists_cons_of_length_eq_add_one h
 obtain ⟨b,r,rfl⟩:=List.exists_cons_of_length_eq_add_one (Nat.succ.inj h)
 exact ⟨a,b,by rw [List.eq_nil_of_length_eq_zero (Nat.succ.inj (Nat.succ.inj h))]⟩
open PySem PySem.Spec PyProof.Rows
section
variable {prog:Program} {w:World}
structure Wkr(prog:Program)(w:World)(it l:Addr)(n:Nat)(P:Nat->Value->Prop)(St:Nat->Heap->Prop):Prop where
 obj:∀ i h,St i h->∃ o,h.get? it=some o/\∀ v,o.data ≠ .cell v
 keep:∀ i h h',St i h->(∀ o,h.get? it=some o->h'.get? it=some o)->(∀ o,h.get? l=some o->h'.get? l=some o)->St i h'
 item:∀ (A:Around) (E:Value->Shared->Prop) (s:Shared) (Q:Value->Shared->Prop) (i:Nat),i<n->St i s.heap->(∀ x h',P i x->St (i+1) h'->Heap.SameBut it s.heap h'->Q x { s with heap:=h' })->wpAny (model prog w) A (Builtin.SmallTypes.nextOf (.ref it)) Q E s
 stop:∀ (A:Around) (E:Value->Shared->Prop) (s:Shared) (Q:Value->Shared->Prop),A.handled=none->St n s.heap->(∀ h' e,Heap.ExtBut it s.heap h'->(∃ o,h'.get? e=some o/\o.cls = .type "StopIteration")->E (.ref e) { s with heap:=h' })->wpAny (model prog w) A (Builtin.SmallTypes.nextOf (.ref it)) Q E s
theorem n_r(it t:Addr)(hne:t≠it)(vs:Array Value):Wkr prog w it t vs.size (fun i v=>vs[i]? = some v) (fun i h=>h.IsTupleIter it t i/\h.IsTuple t vs) where
 obj:=fun i h ⟨⟨o,ho,_,hd⟩,_⟩=>⟨o,ho,fun v q=>by rw [hd] at q;cases q⟩
 keep:=fun i h h' ⟨⟨o,ho,r⟩,⟨o2,ho2,r2⟩⟩ k1 k2=>⟨⟨o,k1 o ho,r⟩,⟨o2,k2 o2 ho2,r2⟩⟩
 item:=fun A E s Q i hi ⟨ci,ct⟩ q=>by
  have ct':=ct
  obtain ⟨o,ho,hc,hd⟩:=id ci
  obtain ⟨ot,hot,_,nt,hdt⟩:=ct
  have hx:vs[i]? = some vs[i]:=by simp [hi]
  unfold Builtin.SmallTypes.nextOf
  refine wpAny_bind (wpAny_callSpecial?_slot (name:=Str.ofString "__next__") ci.typeIs F.slot_tuple_iterator_next (wpAny_call_entry F.slot_tuple_iterator_next ci.typeIs F.entry_tuple_iterator_next ?_ (F.args_tuple_iterator_next_1 _)))
  change wpAny _ _ (field (.ref it) 0 >>= _) _ _ s
  refine wpAny_bind (wpAny_field ho hd (x:=Value.ref t) rfl ?_)
  change wpAny _ _ (if (Value.ref t == Value.none)=true then _ else _) _ _ s
  rw [if_neg (show ¬((Value.ref t == Value.none)=true) from fun y=>Bool.false_ne_true y)]
  change wpAny _ _ (field (.ref it) 1 >>= _) _ _ s
  refine wpAny_bind (wpAny_field ho hd (x:=Value.int i 0) rfl ?_)
  change wpAny _ _ (seqItems? (.ref t) >>= _) _ _ s
  refine wpAny_bind (wpAny_seqItems hot hdt ?_)
  simp only [hx,Int.toNat_natCast]
  refine wpAny_bind (wpAny_setField ho hd (by simp) (wpAny_pure ⟨vs[i],rfl,wpAny_pure (q _ _ hx ⟨?_,ct'.extBut (Heap.SameBut.update ..).extBut hne⟩ (Heap.SameBut.update ..))⟩))
  exact ⟨_,Heap.get?_update_self _ ho (Obj.isFreed_of_fields (Obj.data_mapFields hd _)),(Obj.cls_mapFields ..).trans hc,by rw [Obj.data_mapFields hd];simp [rawInt]⟩
 stop:=fun A E s Q hh ⟨ci,ct⟩ q=>by
  obtain ⟨o,ho,hc,hd⟩:=id ci
  obtain ⟨ot,hot,_,nt,hdt⟩:=ct
  have hx:vs[vs.size]? = none:=by simp
  unfold Builtin.SmallTypes.nextOf
  refine wpAny_bind (wpAny_callSpecial?_slot (name:=Str.ofString "__next__") ci.typeIs F.slot_tuple_iterator_next (wpAny_call_entry F.slot_tuple_iterator_next ci.typeIs F.entry_tuple_iterator_next ?_ (F.args_tuple_iterator_next_1 _)))
  change wpAny _ _ (field (.ref it) 0 >>= _) _ _ s
  refine wpAny_bind (wpAny_field ho hd (x:=Value.ref t) rfl ?_)
  change wpAny _ _ (if (Value.ref t == Value.none)=true then _ else _) _ _ s
  rw [if_neg (show ¬((Value.ref t == Value.none)=true) from fun y=>Bool.false_ne_true y)]
  change wpAny _ _ (field (.ref it) 1 >>= _) _ _ s
  refine wpAny_bind (wpAny_field ho hd (x:=Value.int vs.size 0) rfl ?_)
  change wpAny _ _ (seqItems? (.ref t) >>= _) _ _ s
  refine wpAny_bind (wpAny_seqItems hot hdt ?_)
  simp only [hx,Int.toNat_natCast]
  refine wpAny_bind (wpAny_rule (wpAny_bind (wpAny_setField ho hd (by simp) ?_)))
  change wpAny _ _ (newExc (.type "StopIteration") [] >>= _) _ _ _
  refine wpAny_bind ?_
  simp only [newTuple,newExc]
  refine wpAny_bind (wpAny_newObj_type ?_ (by size_fits))
  refine wpAny_bind (m:=firstArgMember _ _) (wpAny_of_eq (a:=Value.none) (by first | rfl | (simp only [firstArgMember];rfl)) (wpAny_newObj_type ?_ (by size_fits)))
  simp only [raiseNew]
  refine wpAny_bind (wpAny_handled ?_)
  first | rw [show A.in1.handled=none from hh] | rw [hh]
  exact wpAny_bind (wpAny_pure (wpAny_throw (q _ _ (((Heap.SameBut.update ..).extBut.push _).push _) ⟨_,Heap.get?_push_size _ rfl,rfl⟩)))
theorem h_f{A:Around}{E:Value->Shared->Prop}{s:Shared}{z TI TO i1 i2 l1 l2:Addr}{n1 n2 k:Nat}{P1 P2:Nat->Value->Prop}{S1 S2:Nat->Heap->Prop}{a b:Value}{Q:Value->Shared->Prop}(D:ZipApart z TI TO i1 i2 l1 l2)
  (W1:Wkr prog w i1 l1 n1 P1 S1) (W2:Wkr prog w i2 l2 n2 P2 S2) (zz:IsZip s.heap z TI TO .none) (zi:IsPair s.heap TI (.ref i1) (.ref i2)) (zo:IsPair s.heap TO a b)
  (c1:S1 k s.heap) (c2:S2 k s.heap) (lt1:k<n1) (lt2:k<n2)
  (q:∀ x y h',P1 k x->P2 k y->IsZip h' z TI TO (rawInt s.heap.objs.size)->IsPair h' TO x y->S1 (k+1) h'->S2 (k+1) h'->IsPair h' s.heap.objs.size x y->(∀ c o,c∉[z,TO,i1,i2]->s.heap.get? c=some o->h'.get? c=some o)->Q (.ref s.heap.objs.size) { s with heap:=h' }) :
  wpAny (model prog w) A (Builtin.«zip.__next__» ⟨[.ref z],[]⟩) (fun fin s'=>∃ v,fin = .done (.ret v)/\Q v s') E s:=by
 change wpAny _ _ (field (.ref z) 2 >>= _) _ _ _
 refine wpAny_bind (wpAny_field zz rfl (x:=.bool false) rfl ?_)
 change wpAny _ _ (field (.ref z) 3 >>= _) _ _ _
 refine wpAny_bind (wpAny_field zz rfl (x:=.ref TI) rfl ?_)
 refine wpAny_bind (wpAny_seqItems zi rfl ?_)
 change wpAny _ _ (Builtin.SmallTypes.ownedTupleIsFree (.ref z) >>= _) _ _ _
 refine wpAny_bind ?_
 unfold Builtin.SmallTypes.ownedTupleIsFree;refine wpAny_bind (wpAny_field zz rfl (x:=.none) rfl (wpAny_pure ?_))
 simp only [if_true]
 refine wpAny_bind (wpAny_rule ?_)
 refine wpAny_bind (wpAny_field zz rfl (x:=.ref TO) rfl ?_)
 refine wpAny_bind (wpAny_setField_rec zz (by simp) fun g1 zz1 t1=>?_)
 replace zz1:IsZip g1 z TI TO .ellipsis:=zz1
 refine wpAny_bind ?_
 simp only [List.forIn_cons,List.forIn_nil,List.zipIdx_cons,List.zipIdx_nil]
 refine wpAny_bind (wpAny_bind (wpAny_onRaise ?_))
 change wpAny _ _ (Builtin.SmallTypes.nextOf (.ref i1) >>= _) _ _ _
 have up1:∀ c o,c≠z->s.heap.get? c=some o->g1.get? c=some o:=fun c o hc e=>t1.extBut _ _ hc e
 refine wpAny_bind (W1.item _ _ _ _ k lt1 (W1.keep _ _ _ c1 (fun o e=>up1 _ o D.i1z e) fun o e=>up1 _ o D.l1z e) fun x g2 px d1 t2=>wpAny_pure ?_)
 have up2:∀ c o,c≠z->c≠i1->s.heap.get? c=some o->g2.get? c=some o:=fun c o h1 h2 e=>t2.extBut _ _ h2 (up1 c o h1 e)
 have zo2:IsPair g2 TO a b:=up2 _ _ D.TOz D.TOi1 zo
 refine wpAny_bind (wpAny_seqItems zo2 rfl ?_)
 refine wpAny_bind (wpAny_updateSeq_pair zo2 fun g3 zo3 t3=>?_)
 replace zo3:IsPair g3 TO x b:=zo3
 refine wpAny_bind (wpAny_letGo (wpAny_pure ?_));refine wpAny_bind (wpAny_bind (wpAny_onRaise ?_))
 change wpAny _ _ (Builtin.SmallTypes.nextOf (.ref i2) >>= _) _ _ _
 have up3:∀ c o,c≠z->c≠i1->c≠TO->s.heap.get? c=some o->g3.get? c=some o:=fun c o h1 h2 h3 e=>t3.extBut _ _ h3 (up2 c o h1 h2 e)
 refine wpAny_bind (W2.item _ _ _ _ k lt2 (W2.keep _ _ _ c2 (fun o e=>up3 _ o D.i2z D.i12.symm D.TOi2.symm e) fun o e=>up3 _ o D.l2z D.l2i1 D.l2TO e) fun y g4 py d2 t4=>wpAny_pure ?_)
 have zo4:IsPair g4 TO x b:=t4.extBut _ _ D.TOi2 zo3
 refine wpAny_bind (wpAny_seqItems zo4 rfl ?_)
 refine wpAny_bind (wpAny_updateSeq_pair zo4 fun g5 zo5 t5=>?_)
 replace zo5:IsPair g5 TO x y:=zo5
 refine wpAny_bind (wpAny_letGo (wpAny_pure (wpAny_pure ?_)));refine wpAny_bind (wpAny_seqItems zo5 rfl ?_)
 refine wpAny_bind (wpAny_newTuple ?_)
 have sz:g5.objs.size=s.heap.objs.size:=by rw [t5.1,t4.1,t3.1,t2.1,t1.1]
 have zz5:IsZip g5 z TI TO .ellipsis:=t5.extBut _ _ D.TOz.symm (t4.extBut _ _ D.i2z.symm (t3.extBut _ _ D.TOz.symm (t2.extBut _ _ D.i1z.symm zz1)))
 have up5:∀ c o,c∉[z,TO,i1,i2]->s.heap.get? c=some o->g5.get? c=some o:=fun c o hc e=>by
  simp only [List.mem_cons,List.not_mem_nil,or_false,not_or] at hc
  exact t5.extBut _ _ hc.2.1 (t4.extBut _ _ hc.2.2.2 (up3 c o hc.1 hc.2.2.1 hc.2.1 e))
 have d15:S1 (k+1) g5:=W1.keep _ _ _ d1 (fun o e=>t5.extBut _ _ D.TOi1.symm (t4.extBut _ _ D.i12 (t3.extBut _ _ D.TOi1.symm e))) fun o e=>t5.extBut _ _ D.l1TO (t4.extBut _ _ D.l1i2 (t3.extBut _ _ D.l1TO e))
 have d25:S2 (k+1) g5:=W2.keep _ _ _ d2 (fun o e=>t5.extBut _ _ D.TOi2.symm e) fun o e=>t5.extBut _ _ D.l2TO e
 have zlt:z<g5.objs.size:=Heap.lt_size zz5
 change wpAny _ _ (Builtin.SmallTypes.ownedTupleHandOut (.ref z) (.ref g5.objs.size) >>= _) _ _ _
 refine wpAny_bind ?_
 unfold Builtin.SmallTypes.ownedTupleHandOut;have zz6:IsZip (g5.push { cls:=.type "tuple",data:=.seq #[x,y] }) z TI TO .ellipsis:=Heap.get?_push_of_some _ zz5
 refine wpAny_bind (wpAny_setField_rec zz6 (by simp) fun g7 zz7 t7=>?_)
 replace zz7:IsZip g7 z TI TO (rawInt g5.objs.size):=zz7
 refine wpAny_setField_rec zz7 (by simp) fun g8 zz8 t8=>?_
 replace zz8:IsZip g8 z TI TO (rawInt g5.objs.size):=zz8
 have up:∀ c o,c≠z->g5.get? c=some o->g8.get? c=some o:=fun c o hc e=>t8.extBut _ _ hc (t7.extBut _ _ hc (Heap.get?_push_of_some _ e))
 have pr8:IsPair g8 g5.objs.size x y:=t8.extBut _ _ (Nat.ne_of_gt zlt) (t7.extBut _ _ (Nat.ne_of_gt zlt) (Heap.get?_push_size _ rfl))
 rw [sz] at zz8 pr8
 refine wpAny_pure ⟨_,rfl,?_⟩
 change Q (.ref g5.objs.size) _
 rw [sz]
 exact q x y g8 px py zz8 (up _ _ D.TOz zo5) (W1.keep _ _ _ d15 (fun o e=>up _ o D.i1z e) fun o e=>up _ o D.l1z e) (W2.keep _ _ _ d25 (fun o e=>up _ o D.i2z e) fun o e=>up _ o D.l2z e) pr8 fun c o hc e=>up c o (fun h=>hc (by simp [h])) (up5 c o hc e)
theorem zipw_end{A:Around}{E:Value->Shared->Prop}{s:Shared}{z TI TO i1 i2 l1 l2:Addr}{n1:Nat}{P1:Nat->Value->Prop}{S1:Nat->Heap->Prop}{Q:Fin->Shared->Prop}(hh:A.handled=none)(D:ZipApart z TI TO i1 i2 l1 l2)
  (W1:Wkr prog w i1 l1 n1 P1 S1) (zz:IsZip s.heap z TI TO .none) (zi:IsPair s.heap TI (.ref i1) (.ref i2)) (c1:S1 n1 s.heap)
  (q:∀ h' e,(∀ c o,c∉[z,TO,i1,i2]->s.heap.get? c=some o->h'.get? c=some o)->(∃ o,h'.get? e=some o/\o.cls = .type "StopIteration")->E (.ref e) { s with heap:=h' }) :
  wpAny (model prog w) A (Builtin.«zip.__next__» ⟨[.ref z],[]⟩) Q E s:=by
 change wpAny _ _ (field (.ref z) 2 >>= _) _ _ _
 refine wpAny_bind (wpAny_field zz rfl (x:=.bool false) rfl ?_)
 change wpAny _ _ (field (.ref z) 3 >>= _) _ _ _
 refine wpAny_bind (wpAny_field zz rfl (x:=.ref TI) rfl ?_)
 refine wpAny_bind (wpAny_seqItems zi rfl ?_)
 change wpAny _ _ (Builtin.SmallTypes.ownedTupleIsFree (.ref z) >>= _) _ _ _
 refine wpAny_bind ?_
 unfold Builtin.SmallTypes.ownedTupleIsFree;refine wpAny_bind (wpAny_field zz rfl (x:=.none) rfl (wpAny_pure ?_))
 simp only [if_true]
 refine wpAny_bind (wpAny_rule ?_)
 refine wpAny_bind (wpAny_field zz rfl (x:=.ref TO) rfl ?_)
 refine wpAny_bind (wpAny_setField_rec zz (by simp) fun g1 zz1 t1=>?_)
 replace zz1:IsZip g1 z TI TO .ellipsis:=zz1
 refine wpAny_bind ?_
 simp only [List.forIn_cons,List.forIn_nil,List.zipIdx_cons,List.zipIdx_nil]
 refine wpAny_bind (wpAny_bind (wpAny_onRaise ?_))
 change wpAny _ _ (Builtin.SmallTypes.nextOf (.ref i1) >>= _) _ _ _
 have up1:∀ c o,c≠z->s.heap.get? c=some o->g1.get? c=some o:=fun c o hc e=>t1.extBut _ _ hc e
 refine wpAny_bind (W1.stop _ _ _ _ hh (W1.keep _ _ _ c1 (fun o e=>up1 _ o D.i1z e) fun o e=>up1 _ o D.l1z e) fun g2 e t2 ⟨oe,e1,e2⟩=>?_)
 have zz2:IsZip g2 z TI TO .ellipsis:=t2 _ _ D.i1z.symm zz1
 have ez:e≠z:=fun x=>by subst x;rw [zz2] at e1;cases e1;simp at e2
 refine wpAny_setField_rec zz2 (by simp) fun g3 _ t3=>q g3 e (fun c o hc x=>?_) ⟨oe,t3.extBut _ _ ez e1,e2⟩
 simp only [List.mem_cons,List.not_mem_nil,or_false,not_or] at hc
 exact t3.extBut _ _ hc.1 (t2 _ _ hc.2.2.1 (up1 c o hc.1 x))
def zt1(h:Heap)(l1:Addr):Heap:=h.push { cls:=.type "tuple_iterator",data:=.fields #[.ref l1,.int 0 0] }
def zt2(h:Heap)(l1 l2:Addr):Heap:=(zt1 h l1).push { cls:=.type "tuple_iterator",data:=.fields #[.ref l2,.int 0 0] }
def zt3(h:Heap)(l1 l2:Addr):Heap:=(zt2 h l1 l2).push { cls:=.type "tuple",data:=.seq #[.ref h.objs.size,.ref (zt1 h l1).objs.size] }
def zt4(h:Heap)(l1 l2:Addr):Heap:=(zt3 h l1 l2).push { cls:=.type "tuple",data:=.seq #[.none,.none] }
def zt5(h:Heap)(l1 l2:Addr):Heap:=(zt4 h l1 l2).push { cls:=.type "zip",data:=.fields #[.none,.bool false,.bool false,.ref (zt2 h l1 l2).objs.size,.ref (zt3 h l1 l2).objs.size] }
theorem zipt_new(l1 l2:Addr)(xs ys:Array Value):Meets (Builtin.«zip.__new__» ⟨[.type "zip",.ref l1,.ref l2],[]⟩) (fun _ R s=>s.heap.IsTuple l1 xs/\s.heap.IsTuple l2 ys/\R (.ok (.ret (.ref (zt4 s.heap l1 l2).objs.size))) { s with heap:=zt5 s.heap l1 l2 }) :=
 .of_wp fun prog w A R s ⟨c1,c2,q⟩=>by
  obtain ⟨hp,g,d,tk,os⟩:=s
  have hsub:=sub_zip
  have d1:Heap.IsTuple (Shared.heap ⟨hp,g,d,tk,os⟩) l1 xs:=c1
  have d2:Heap.IsTuple (Shared.heap ⟨zt1 hp l1,g,d,tk,os⟩) l2 ys:=Heap.IsTuple.push c2 _
  unfold zt5 zt4 zt3 zt2 zt1 at q
  unfold zt1 at d2
  wp_walk using wpAny_pyIter_tuple d1,wpAny_pyIter_tuple d2
  exact ⟨_,rfl,q⟩
theorem h_e{A:Around}{E:Value->Shared->Prop}{s:Shared}{l1 l2:Addr}{xs ys:Array Value}{Q:Value->Shared->Prop}(c1:s.heap.IsTuple l1 xs)(c2:s.heap.IsTuple l2 ys)
  (q:∀ h',IsZip h' (s.heap.objs.size+4) (s.heap.objs.size+2) (s.heap.objs.size+3) .none->IsPair h' (s.heap.objs.size+2) (.ref s.heap.objs.size) (.ref (s.heap.objs.size+1))->IsPair h' (s.heap.objs.size+3) .none .none ->
   h'.IsTupleIter s.heap.objs.size l1 0->h'.IsTupleIter (s.heap.objs.size+1) l2 0->(∀ c o,s.heap.get? c=some o->h'.get? c=some o)->Q (.ref (s.heap.objs.size+4)) { s with heap:=h' }):wpAny (model prog w) A (call (.type "zip") [.ref l1,.ref l2]) Q E s:=by
 refine callType_new F.called_zip (by decide) (F.typeCall_zip_2 _ _) (F.newCall_zip_2 _ _) (fun obj=>F.args_object_init_3 obj _ _) F.entry_zip_new (zipt_new l1 l2 xs ys) ⟨c1,c2,?_⟩
 have e1:(zt1 s.heap l1).objs.size=s.heap.objs.size+1:=Heap.size_push ..
 have e2:(zt2 s.heap l1 l2).objs.size=s.heap.objs.size+2:=by unfold zt2;rw [Heap.size_push,e1]
 have e3:(zt3 s.heap l1 l2).objs.size=s.heap.objs.size+3:=by unfold zt3;rw [Heap.size_push,e2]
 have e4:(zt4 s.heap l1 l2).objs.size=s.heap.objs.size+4:=by unfold zt4;rw [Heap.size_push,e3]
 have g5:(zt5 s.heap l1 l2).get? (zt4 s.heap l1 l2).objs.size=some { cls:=.type "zip",data:=.fields #[.none,.bool false,.bool false,.ref (zt2 s.heap l1 l2).objs.size,.ref (zt3 s.heap l1 l2).objs.size] }:=Heap.get?_push_size _ rfl
 have g4:(zt5 s.heap l1 l2).get? (zt3 s.heap l1 l2).objs.size=some { cls:=.type "tuple",data:=.seq #[.none,.none] }:=Heap.get?_push_of_some _ (Heap.get?_push_size _ rfl)
 have g3:(zt5 s.heap l1 l2).get? (zt2 s.heap l1 l2).objs.size=some { cls:=.type "tuple",data:=.seq #[.ref s.heap.objs.size,.ref (zt1 s.heap l1).objs.size] }:=Heap.get?_push_of_some _ (Heap.get?_push_of_some _ (Heap.get?_push_size _ rfl))
 have g2:(zt5 s.heap l1 l2).get? (zt1 s.heap l1).objs.size=some { cls:=.type "tuple_iterator",data:=.fields #[.ref l2,.int 0 0] }:=Heap.get?_push_of_some _ (Heap.get?_push_of_some _ (Heap.get?_push_of_some _ (Heap.get?_push_size _ rfl)))
 have g1:(zt5 s.heap l1 l2).get? s.heap.objs.size=some { cls:=.type "tuple_iterator",data:=.fields #[.ref l1,.int 0 0] }:=Heap.get?_push_of_some _ (Heap.get?_push_of_some _ (Heap.get?_push_of_some _ (Heap.get?_push_of_some _ (Heap.get?_push_size _ rfl))))
 rw [e4,e3,e2] at g5
 rw [e3] at g4
 rw [e2,e1] at g3
 rw [e1] at g2
 have q':=q (zt5 s.heap l1 l2) g5 g3 g4 ⟨_,g1,rfl,rfl⟩ ⟨_,g2,rfl,rfl⟩ fun c o e=>Heap.get?_push_of_some _ (Heap.get?_push_of_some _ (Heap.get?_push_of_some _ (Heap.get?_push_of_some _ (Heap.get?_push_of_some _ e))))
 rw [e4]
 exact ⟨⟨_,g5,rfl⟩,q'⟩
end
def Itzt(K : PySem.W.Frag)(a b : Addr) : It :=
  ⟨fun i H => ∃ xs ys x y, SqT K H a xs /\ SqT K H b ys /\ xs.length = ys.length /\ xs[i]? = some x /\ ys[i]? = some y,
   fun i H v H' => ∃ p x y, v = .ref p /\ H p = none /\ H' = upd H p (.tup [x, y]) /\ (∀ xs, SqT K H a xs -> xs[i]? = some x) /\ ∀ ys, SqT K H b ys -> ys[i]? = some y,
   fun i H => ∃ xs ys, SqT K H a xs /\ SqT K H b ys /\ xs.length = i⟩
open PySem PySem.Spec PyProof.Rows
theorem h_a{P:Program}{w:World}{K:PySem.W.Frag}{elts:List Expr}{kk:Nat}{pos:Pos}(a b z TI TO i1 i2:Addr)(D:ZipApart z TI TO i1 i2 a b) :
  Turn P w K (.Tuple elts kk pos) (Itzt K a b) [z,TI,TO,i1,i2] z (fun i h=>IsZip h z TI TO .none/\IsPair h TI (.ref i1) (.ref i2)/\(∃ c d,IsPair h TO c d)/\h.IsTupleIter i1 a i/\h.IsTupleIter i2 b i) where
 mem:=by simp
 obj:=fun i h st c hc=>by
  obtain ⟨h1,h2,⟨x,y,h3⟩,⟨o4,e4,c4,d4⟩,⟨o5,e5,c5,d5⟩⟩:=st
  have hc':c=z\/c=TI\/c=TO\/c=i1\/c=i2:=by simpa using hc
  rcases hc' with rfl | rfl | rfl | rfl | rfl
  ·exact ⟨_,h1,fun v q=>by cases q⟩
  ·exact ⟨_,h2,fun v q=>by cases q⟩
  ·exact ⟨_,h3,fun v q=>by cases q⟩
  ·exact ⟨o4,e4,fun v q=>by rw [d4] at q;cases q⟩
  ·exact ⟨o5,e5,fun v q=>by rw [d5] at q;cases q⟩
 keep:=fun i h h' st k=>by
  obtain ⟨h1,h2,⟨x,y,h3⟩,⟨o4,e4,r4⟩,⟨o5,e5,r5⟩⟩:=st
  exact ⟨k z (by simp) _ h1,k TI (by simp) _ h2,⟨x,y,k TO (by simp) _ h3⟩,⟨o4,k i1 (by simp) _ e4,r4⟩,⟨o5,k i2 (by simp) _ e5,r5⟩⟩
 item:=by
  intro X hP hw hK hc i pins s σ H E I hf st hg
  subst hP hw hK
  obtain ⟨xs,ys,x,y,hq1,hq2,hll,hx,hy⟩:=hg
  obtain ⟨its1,rv1,p1,hz1⟩:=I.tuple hq1
  obtain ⟨its2,rv2,p2,hz2⟩:=I.tuple hq2
  obtain ⟨u1,hu1,ru1⟩:=rv1.get hx
  obtain ⟨u2,hu2,ru2⟩:=rv2.get hy
  obtain ⟨sz,sTI,⟨c,d,sTO⟩,s1,s2⟩:=st
  have hT:s.TypeIs (.ref z) "zip" := ⟨_,sz,rfl⟩
  have W1:=n_r (prog:=X.prog) (w:=X.w) i1 a D.l1i1 its1.toArray
  have W2:=n_r (prog:=X.prog) (w:=X.w) i2 b D.l2i2 its2.toArray
  unfold pyNext;refine wpAny_bind (wpAny_attempt (wpAny_callSpecial?_slot (name:=Str.ofString "__next__") hT F.slot_zip_next (wpAny_call_entry F.slot_zip_next hT F.entry_zip_next (h_f D W1 W2 sz sTI sTO ⟨s1,p1⟩ ⟨s2,p2⟩ (by have:=(List.getElem?_eq_some_iff.mp hu1).1;simpa using this) (by have:=(List.getElem?_eq_some_iff.mp hu2).1;simpa using this) fun v1 v2 h' px py b1 b2 b3 b4 b5 hk=>wpAny_pure ?_) (F.args_zip_next_1 _))))
  obtain rfl:v1=u1:=by have px':its1[i]? = some v1:=(by simpa using px);rw [hu1] at px';exact (Option.some.inj px').symm
  obtain rfl:v2=u2:=by have py':its2[i]? = some v2:=(by simpa using py);rw [hu2] at py';exact (Option.some.inj py').symm
  have lt:∀ {c o},s.heap.get? c=some o->c≠s.heap.objs.size:=fun e=>Nat.ne_of_lt (Heap.lt_size e)
  have I0:Inv X pins σ (upd H s.heap.objs.size (.tup [x,y])) { s with heap:=s.heap.push { cls:=.type "tuple",data:=.seq #[v1,v2] },toks:=s.toks } :=
   I.laid (a:=s.heap.objs.size) (o:=.tup [x,y]) (t':=s.toks) (fun b u e=>Heap.get?_push_of_some _ e) (Nat.le_refl _) ⟨zl2,[v1,v2],.cons ru1 (.cons ru2 .nil),_,Heap.get?_push_size _ rfl,rfl,_,rfl⟩
  have hnone:∀ c∈[z,TI,TO,i1,i2],(upd H s.heap.objs.size (.tup [x,y])) c=none:=fun c hc'=>by
   have hne:c≠s.heap.objs.size:=by
    have hc'':c=z\/c=TI\/c=TO\/c=i1\/c=i2:=by simpa using hc'
    rcases hc'' with rfl | rfl | rfl | rfl | rfl
    ·exact lt sz
    ·exact lt sTI
    ·exact lt sTO
    ·obtain ⟨_,e,_⟩:=s1;exact lt e
    ·obtain ⟨_,e,_⟩:=s2;exact lt e
   rw [y_a hne]
   exact (hf c hc').1
  have hf':∀ c∈[z,TI,TO,i1,i2],FpOk X pins (upd H s.heap.objs.size (.tup [x,y])) c:=fun c hc'=>⟨hnone c hc',(hf c hc').2⟩
  have kk1:∀ c o,c∉[z,TO,i1,i2]->(s.heap.push { cls:=.type "tuple",data:=.seq #[v1,v2] }).get? c=some o->h'.get? c=some o:=fun c o hn e=>by
   rcases Heap.get?_push_cases e with ⟨rfl,rfl⟩ | e'
   ·exact b5
   ·exact hk c o hn e'
  have kk2:∀ c∈[z,TO,i1,i2],FpOk X pins (upd H s.heap.objs.size (.tup [x,y])) c:=fun c hc'=>hf' c (by
   have hc'':c=z\/c=TO\/c=i1\/c=i2:=by simpa using hc'
   rcases hc'' with rfl | rfl | rfl | rfl<;>simp)
  have I1:=I0.turnedL (h':=h') (t':=s.toks) (ch:=[z,TO,i1,i2]) kk1 kk2
  refine ⟨_,rfl,wpAny_letOwnedTupleGo_zip b1 fun h2 c1 c2=>?_⟩
  have I2:=I1.turnedL (h':=h2) (t':=s.toks) (ch:=[z]) (fun c o hn e=>(c2.2 c (fun q=>hn (by simp [q]))).trans e) (fun c hc'=>hf' c (by rw [List.mem_singleton.mp hc'];simp))
  refine ⟨.ref s.heap.objs.size,_,I2,rfl,⟨_,x,y,rfl,I.hok.fresh (Nat.le_refl _),rfl,fun xs' q=>by rw [I.tuple_inj q hq1];exact hx,fun ys' q=>by rw [I.tuple_inj q hq2];exact hy⟩,?_,hnone⟩
  have mv:∀ c o,c≠z->h'.get? c=some o->h2.get? c=some o:=fun c o hn e=>(c2.2 c hn).trans e
  obtain ⟨⟨o3,e3,r3⟩,_⟩:=b3
  obtain ⟨⟨o4,e4,r4⟩,_⟩:=b4
  exact ⟨c1,mv _ _ D.TIz (hk _ _ (by simp [D.TIz,D.TITO,D.TIi1,D.TIi2]) sTI),⟨_,_,mv _ _ D.TOz b2⟩,⟨o3,mv _ _ D.i1z e3,r3⟩,⟨o4,mv _ _ D.i2z e4,r4⟩⟩
 done:=by
  intro X hP hw hK hc i pins s σ H E I hf st hg
  subst hP hw hK
  obtain ⟨xs,ys,hq1,hq2,hx⟩:=hg
  obtain ⟨its1,rv1,p1,hz1⟩:=I.tuple hq1
  have l1:=rv1.length
  obtain ⟨sz,sTI,⟨c,d,sTO⟩,s1,s2⟩:=st
  have hT:s.TypeIs (.ref z) "zip" := ⟨_,sz,rfl⟩
  have W1:=n_r (prog:=X.prog) (w:=X.w) i1 a D.l1i1 its1.toArray
  have ei:its1.toArray.size=i:=by simp;lia
  unfold pyNext;refine wpAny_bind (wpAny_attempt (wpAny_callSpecial?_slot (name:=Str.ofString "__next__") hT F.slot_zip_next (wpAny_call_entry F.slot_zip_next hT F.entry_zip_next (zipw_end (I.ok.hd hc) D W1 sz sTI (by rw [ei];exact ⟨s1,p1⟩) fun h' e hk ⟨oe,e1,e2⟩=>?_) (F.args_zip_next_1 _))))
  refine wpAny_bind (wpAny_isInstance (T := "StopIteration") (b:=true) ⟨oe,e1,e2⟩ isSubtype_stop (wpAny_pure ⟨rfl,I.turnedL (t':=s.toks) (ch:=[z,TO,i1,i2]) hk fun c hc'=>hf c ?_⟩))
  have hc'':c=z\/c=TO\/c=i1\/c=i2:=by simpa using hc'
  rcases hc'' with rfl | rfl | rfl | rfl<;>simp
 self:=fun _ _ _ _ _ st h=>wpAny_pyIter_zip st.1 h
def iZipt(K:PySem.W.Frag)(ta:TA):TI:=fun σ H R=>ta σ H fun vs H1=>∃ a b,vs=[.ref a,.ref b]/\(∃ xs,SqT K H1 a xs)/\(∃ ys,SqT K H1 b ys)/\R (Itzt K a b) H1
theorem pi_zipt{X:Cx}{elts:List Expr}{kk:Nat}{tpos:Pos}{a b:Expr}{ta:TA}{p pos:Pos}(hg:Gl X "zip")(hm:X.mg "zip" = none)(ha:PA X [a,b] ta)(hs:starEach [a,b] X.env=[(false,eval a X.env),(false,eval b X.env)]:=by rfl)(hs2:starEach [b] X.env=[(false,eval b X.env)]:=by rfl) :
  PI X (.Tuple elts kk tpos) (.Call (.Name "zip" p) [a,b] [] pos) (iZipt X.K ta):=by
 intro pins s σ H R I h
 refine Call_ (q_h I hg hm PyProof.Rows.boot_zip (PyProof.Rows.callWith_type1 (thn (ha pos pins s σ H _ I h) fun us s1 ⟨vs,H1,I1,r1,q1⟩=>?_) (by rw [hs,hs2]) (by rw [hs2];rfl)))
 obtain ⟨l1,l2,e,⟨xs,hq1⟩,⟨ys,hq2⟩,q⟩:=q1
 subst e
 cases r1 with
 | cons r rr =>
  cases rr with
  | cons r' rr =>
   cases rr
   cases r
   cases r'
   obtain ⟨its1,rv1,p1,hz1⟩:=I1.tuple hq1
   obtain ⟨its2,rv2,p2,hz2⟩:=I1.tuple hq2
   have hlt1 : @LT.lt Nat _ l1 s1.heap.objs.size:=by obtain ⟨o,e,_⟩:=p1;exact Heap.lt_size e
   have hlt2 : @LT.lt Nat _ l2 s1.heap.objs.size:=by obtain ⟨o,e,_⟩:=p2;exact Heap.lt_size e
   refine h_e p1 p2 fun h' hz hTI hTO hi1 hi2 hk=>wpAny_pyIter_zip hz ?_
   have D:ZipApart (s1.heap.objs.size+4) (s1.heap.objs.size+2) (s1.heap.objs.size+3) s1.heap.objs.size (s1.heap.objs.size+1) l1 l2:=PySem.W.ktu_apart _ _ _ hlt1 hlt2
   refine ⟨_,[s1.heap.objs.size+4,s1.heap.objs.size+2,s1.heap.objs.size+3,s1.heap.objs.size,s1.heap.objs.size+1],_,_,H1,rfl,I1.kept (t':=s1.toks) hk,h_a l1 l2 _ _ _ _ _ D,⟨hz,hTI,⟨_,_,hTO⟩,hi1,hi2⟩,fun c hc=>?_,q⟩
   have hc':c=s1.heap.objs.size+4\/c=s1.heap.objs.size+2\/c=s1.heap.objs.size+3\/c=s1.heap.objs.size\/c=s1.heap.objs.size+1:=by simpa using hc
   have hle : @LE.le Nat _ s1.heap.objs.size c:=by
    rcases hc' with rfl | rfl | rfl | rfl | rfl
    ·exact Nat.le_add_right _ _
    ·exact Nat.le_add_right _ _
    ·exact Nat.le_add_right _ _
    ·exact Nat.le_refl _
    ·exact Nat.le_add_right _ _
   exact I1.fpOk hle (I1.hok.fresh hle)
open PySem
theorem k_w{K:PySem.W.Frag}{n:Nat}{c:St}{g:TG}{tt:TT}{te:TE}{H:Hp}{Fin:List V->Hp->Prop}{a b:Addr}{xs us:List V}(Pv:Nat->List V->Hp->Prop)(h0:Pv 0 [] H)(hl:∀ i ys H,i<=xs.length->Pv i ys H->SqT K H a xs/\SqT K H b us)(he:xs.length=us.length)(hz:∀ i ys H,i<xs.length->Pv i ys H->ys.length<sizeLine)
  (hs:∀ i x y p ys H (os:St),os.length=n->xs[i]? = some x->us[i]? = some y->Pv i ys H->H p=none->g (.ref p) (os++c) (upd H p (.tup [x,y])) fun σ2 H2=>tt σ2 H2 fun b H3=>if b=true then te σ2 H3 fun y H4=>Pv (i+1) (ys++[y]) H4 else Pv (i+1) ys H3)
  (hd:∀ ys H,Pv xs.length ys H->Fin ys H):CompG (Itzt K a b) n c g tt te H Fin:=by
 refine ⟨fun i m ys H=>m=xs.length-i/\i<=xs.length/\Pv i ys H,⟨xs.length,by simp,Nat.zero_le _,h0⟩,?_⟩
 rintro i m ys H ⟨rfl,hi,p⟩
 obtain ⟨q1,q2⟩:=hl i ys H hi p
 by_cases hlt:i<xs.length
 ·have hlt2:i<us.length:=by lia
  refine .inr ⟨⟨xs,us,xs[i],us[i],q1,q2,he,by simp [hlt],by simp [hlt2]⟩,hz i ys H hlt p,Pv (i+1),fun ys' H' p'=>⟨xs.length-(i+1),by lia,rfl,hlt,p'⟩,fun v H' y os hos=>?_⟩
  obtain ⟨pp,x,y,rfl,hp,rfl,e1,e2⟩:=y
  exact hs i x y pp ys H os hos (e1 xs q1) (e2 us q2) p hp
 ·have e:i=xs.length:=by lia
  subst e
  exact .inl ⟨⟨xs,us,q1,q2,rfl⟩,hd ys H p⟩
def Kps(ls:List Addr)(H H':Hp):Prop:=∀ b o,b∉ls->H b=some o->H' b=some o
theorem Kps.refl{ls:List Addr}{H:Hp}:Kps ls H H:=fun _ _ _ e=>e
theorem Kps.set{ls:List Addr}{H H':Hp}{a:Addr}(k:Kps ls H H')(h:a∈ls)(o:HO):Kps ls H (upd H' a o):=fun c u n e=>by
 rw [y_a (fun z:c=a=>n (by rw [z];exact h))]
 exact k c u n e
theorem Kps.keepT{ls:List Addr}{H H':Hp}(k:Kps ls H H')(n:∀ a∈ls,∀ xs,H a≠some (.tup xs)):KeepT H H':=fun p xs h=>k p _ (fun z=>n p z xs h) h
def DOk:Nat->PyData->Prop
 | 0,_=>False
 | n+1,d=>(∃ i,d = .int i)\/(∃ x,d = .str x/\PyData.strOk x=true)\/(∃ ds,d = .tuple ds/\ds.length<=10000/\∀ e∈ds,DOk n e)\/∃ ds,d = .list ds/\ds.length<=10000/\∀ e∈ds,DOk n e
theorem DOk.cmp:∀ {n:Nat} {d:PyData},DOk n d->Cmp n d
 | 0,_,h=>h.elim
 | n+1,d,h=>by
  rcases h with ⟨i,rfl⟩ | ⟨x,rfl,hx⟩ | ⟨ds,rfl,_,h⟩ | ⟨ds,rfl,_,h⟩
  ·exact .int _
  ·exact ⟨by simp [PyData.canLay0,hx],by simp [PyData.depth]⟩
  ·exact Cmp.tuple fun e he=>(h e he).cmp
  ·exact Cmp.list fun e he=>(h e he).cmp
theorem DOk.int{n:Nat}(i:Int):DOk (n+1) (.int i):=.inl ⟨i,rfl⟩
theorem DOk.str{n:Nat}{x:Str}(h:PyData.strOk x=true):DOk (n+1) (.str x):=.inr (.inl ⟨x,rfl,h⟩)
theorem DOk.tup{n:Nat}{ds:List PyData}(hl:ds.length<=10000)(h:∀ e∈ds,DOk n e):DOk (n+1) (.tuple ds):=.inr (.inr (.inl ⟨ds,rfl,hl,h⟩))
theorem DOk.lst{n:Nat}{ds:List PyData}(hl:ds.length<=10000)(h:∀ e∈ds,DOk n e):DOk (n+1) (.list ds):=.inr (.inr (.inr ⟨ds,rfl,hl,h⟩))
def s_u(n:Nat):Sp:=fun vs H Q _=>∃ (d:PyData) (v u:V),vs=[v,u]/\DOk n d/\Dat H d v/\Dat H d u/\∀ H',Same H H'->Q (.bl true) H'
theorem DOk.up:∀ {n m:Nat} {d:PyData},DOk n d->n<=m->DOk m d
 | 0,_,_,h,_=>h.elim
 | n+1,0,_,_,l=>by lia
 | n+1,m+1,d,h,l=>by
  rcases h with h | h | ⟨ds,e,hl,h⟩ | ⟨ds,e,hl,h⟩
  ·exact .inl h
  ·exact .inr (.inl h)
  ·exact .inr (.inr (.inl ⟨ds,e,hl,fun d hd=>(h d hd).up (by lia)⟩))
  ·exact .inr (.inr (.inr ⟨ds,e,hl,fun d hd=>(h d hd).up (by lia)⟩))
theorem o_h:∀ {n:Nat} {d:PyData},0<pcs n d->pcs (n+1) d=pcs n d
 | 0,d,h=>absurd h (Nat.lt_irrefl 0)
 | n+1,d,h=>by
  obtain ⟨hf,hs⟩:=pcs_pos.mp h
  have h2:0<pcs (n+2) d:=pcs_pos.mpr ⟨hf,fun x hx=>by rw [o_h (hs x hx)];exact hs x hx⟩
  rw [u_d h2,u_d h,List.map_congr_left fun x hx=>o_h (hs x hx)]
theorem pcs_36{d:PyData}(h:0<pcs 3 d):pcs 6 d=pcs 3 d:=by
 have h1:=o_h h
 have h2:=o_h (n:=4) (by rw [h1];exact h)
 have h3:=o_h (n:=5) (by rw [h2,h1];exact h)
 rw [h3,h2,h1]
theorem NmO.sok{z:Str}(h:NmO z):PyData.strOk z=true:=by
 unfold PyData.strOk
 rw [<-Array.all_toList]
 refine List.all_eq_true.mpr fun c hc=>decide_eq_true ?_
 have:=h.let hc
 lia
theorem word_sok{z:Str}(h:z∈words):PyData.strOk z=true:=by
 have:∀ z∈words,PyData.strOk z=true:=by decide +kernel
 exact this z h
theorem dok_nats{n:Nat}(ns:List Nat):∀ e∈ns.map (fun k:Nat=>PyData.int (k:Int)),DOk (n+1) e:=fun e he=>by
 obtain ⟨k,_,rfl⟩:=List.mem_map.mp he
 exact .int _
theorem i_m:∀ {n:Nat} {d:PyData},0<pcs n d->DOk (n+1) d
 | 0,d,h=>absurd h (Nat.lt_irrefl 0)
 | n+1,d,h=>by
  rcases s_t h with ⟨x,lf,_⟩ | ⟨z,ds,fr,L,rest,rfl,hf,hz,h1,h2,hs,_⟩
  ·cases lf with
   | wire hx =>
    refine .tup (by show 2<=10000;decide) fun e he=>?_
    simp only [List.mem_cons,List.not_mem_nil,or_false] at he
    rcases he with rfl | rfl
    ·exact .str (by decide +kernel)
    ·exact .str hx.sok
   | num =>
    refine .tup (by show 3<=10000;decide) fun e he=>?_
    simp only [List.mem_cons,List.not_mem_nil,or_false] at he
    rcases he with rfl | rfl | rfl
    ·exact .str (by decide +kernel)
    ·exact .int _
    ·exact .int _
  ·have hN:formN z<=4:=by unfold formN;repeat (first | lia | split)
   refine .tup (by rw [List.length_cons,List.length_append];lia) fun e he=>?_
   rcases List.mem_cons.mp he with rfl | he
   ·exact .str (word_sok hz)
   rcases List.mem_append.mp he with hq | he
   ·cases hf with
    | @table w ns _ _ _ l16 _ =>
     have n1:1<=n:=by
      match n,L,hs with
      | 0,[],_=>exact absurd h2 (by decide)
      | 0,x::L,hs=>exact absurd (hs x List.mem_cons_self) (Nat.lt_irrefl 0)
      | n+1,_,_=>lia
     have he2:e=PyData.int (w:Int)\/e=PyData.tuple (ns.map fun k:Nat=>PyData.int (k:Int)):=by
      simpa only [List.mem_cons,List.not_mem_nil,or_false] using hq
     rcases he2 with rfl | rfl
     ·exact .int _
     ·obtain ⟨m,rfl⟩:∃ m,n=m+1:=⟨n-1,by lia⟩
      exact .tup (by rw [List.length_map];lia) (dok_nats ns)
    | node =>
     obtain ⟨k,_,rfl⟩:=List.mem_map.mp hq
     exact .int _
   ·exact i_m (hs e he)
theorem SyOk.dok{s:PyData}(h:SyOk s):DOk 7 s:=i_m h.pcs.1
theorem dok_strs{n:Nat}{ns:List Str}(h:∀ z∈ns,NmO z):∀ e∈ns.map PyData.str,DOk (n+1) e:=fun e he=>by
 obtain ⟨z,hz,rfl⟩:=List.mem_map.mp he
 exact .str (h z hz).sok
theorem PRw.Ok.dok{r:PRw}(h:r.Ok):DOk 9 r.dat:=by
 cases r with
 | wire n w s =>
  refine .tup (by show 4<=10000;decide) fun e he=>?_
  simp only [List.mem_cons,List.not_mem_nil,or_false] at he
  rcases he with rfl | rfl | rfl | rfl
  ·exact .str (by decide +kernel)
  ·exact .str h.1.sok
  ·exact .int _
  ·exact h.2.2.2.dok.up (by decide)
 | box n w x s =>
  refine .tup (by show 5<=10000;decide) fun e he=>?_
  simp only [List.mem_cons,List.not_mem_nil,or_false] at he
  rcases he with rfl | rfl | rfl | rfl | rfl
  ·exact .str (by decide +kernel)
  ·exact .str h.1.sok
  ·exact .int _
  ·exact .int _
  ·exact h.2.2.2.2.dok.up (by decide)
 | use t p q ss ns =>
  obtain ⟨_,n1,n2,l1,l2,hss,hns⟩:=h
  have d1:DOk 8 (.tuple ss):=.tup (by lia) fun e he=>(hss e he).dok
  have d2:DOk 8 (.tuple (ns.map PyData.str)):=.tup (by rw [List.length_map];lia) (dok_strs hns)
  cases t with
  | none =>
   refine .tup (by show 5<=10000;decide) fun e he=>?_
   simp only [List.mem_cons,List.not_mem_nil,or_false] at he
   rcases he with rfl | rfl | rfl | rfl | rfl
   ·exact .str (by decide +kernel)
   ·exact .str n1.sok
   ·exact .str n2.sok
   ·exact d1
   ·exact d2
  | some t =>
   refine .tup (by show 6<=10000;decide) fun e he=>?_
   simp only [List.mem_cons,List.not_mem_nil,or_false] at he
   rcases he with rfl | rfl | rfl | rfl | rfl | rfl
   ·exact .str (by decide +kernel)
   ·exact .int _
   ·exact .str n1.sok
   ·exact .str n2.sok
   ·exact d1
   ·exact d2
theorem p_t{n:Nat}{ps:List (Str×Nat)}(h:∀ q∈ps,PtOk q):∀ e∈ps.map portP,DOk (n+2) e:=fun e he=>by
 obtain ⟨q,hq,rfl⟩:=List.mem_map.mp he
 refine .tup (by show 2<=10000;decide) fun e he=>?_
 simp only [List.mem_cons,List.not_mem_nil,or_false] at he
 rcases he with rfl | rfl
 ·exact .str (h q hq).1.sok
 ·exact .int _
theorem PPt.Ok.dok{p:PPt}(h:p.Ok):DOk 11 p.dat:=by
 refine .tup (by show 4<=10000;decide) fun e he=>?_
 simp only [List.mem_cons,List.not_mem_nil,or_false] at he
 rcases he with rfl | rfl | rfl | rfl
 ·exact .str h.name.sok
 ·exact .tup (by rw [List.length_map];have:=h.il;lia) (p_t h.ins)
 ·exact .tup (by rw [List.length_map];have:=h.ol;lia) (p_t h.outs)
 ·exact .tup (by rw [List.length_map];have:=h.rl;lia) fun e he=>by
   obtain ⟨r,hr,rfl⟩:=List.mem_map.mp he
   exact (h.rows r hr).dok
theorem plan_dok{ps:List PPt}(h:∀ p∈ps,p.Ok)(hl:ps.length<=6):DOk 12 (.list (ps.map PPt.dat)):=.lst (by rw [List.length_map];lia) fun e he=>by
 obtain ⟨p,hp,rfl⟩:=List.mem_map.mp he
 exact (h p hp).dok
def RwG(r:PRw):Prop:=r.Ok/\r.ws.length<=800
theorem rwg_wire{n:Str}{w:Nat}{s:PyData}(h:(PRw.wire n w s).Ok):RwG (.wire n w s):=by
 refine ⟨h,?_⟩
 have:=x_z h.2.2.2.pcs.1
 have:=h.2.2.2.pcs.2
 show ((["wire",n,nw w, "="]:List Str)++sayW 6 s).length<=800
 rw [List.length_append]
 show 4+_<=800
 lia
theorem rwg_box{n:Str}{w x:Nat}{s:PyData}(h:(PRw.box n w x s).Ok):RwG (.box n w x s):=by
 refine ⟨h,?_⟩
 have:=x_z h.2.2.2.2.pcs.1
 have:=h.2.2.2.2.pcs.2
 show ((["box",n,nw w,nw x, "="]:List Str)++sayW 6 s).length<=800
 rw [List.length_append]
 show 5+_<=800
 lia
theorem m_c{f:PyData->List Str}{B:Nat}:∀ {ss:List PyData},(∀ s∈ss,(f s).length<=B)->(ss.flatMap f).length<=ss.length*B
 | [],_=>by simp
 | s::ss,h=>by
  rw [List.flatMap_cons,List.length_append,List.length_cons,Nat.succ_mul]
  have:=h s List.mem_cons_self
  have:=m_c (ss:=ss) fun x hx=>h x (List.mem_cons_of_mem _ hx)
  lia
theorem rwg_use{t:Option Nat}{p q:Str}{ss:List PyData}{ns:List Str}(h:(PRw.use t p q ss ns).Ok)(h4:ss.length<=4)(n4:ns.length<=4)(h5:∀ s∈ss,pcs 6 s<=5):RwG (.use t p q ss ns):=by
 refine ⟨h,?_⟩
 have hl:(ss.flatMap (sayW 6)).length<=ss.length*95:=m_c fun s hs=>by
  have:=x_z (h.2.2.2.2.2.1 s hs).pcs.1
  have:=h5 s hs
  lia
 cases t with
 | none =>
  show ((["use",p,q]:List Str)++ns++(["="]:List Str)++ss.flatMap (sayW 6)).length<=800
  simp only [List.length_append,List.length_cons,List.length_nil]
  lia
 | some t =>
  show ((["times",nw t,p,q]:List Str)++ns++(["="]:List Str)++ss.flatMap (sayW 6)).length<=800
  simp only [List.length_append,List.length_cons,List.length_nil]
  lia
structure PtG(p:PPt):Prop where
 ok:p.Ok
 rl:p.rows.length<=5
 rows:∀ r∈p.rows,r.ws.length<=800
theorem PtG.len{p:PPt}(h:PtG p):p.ws.length<=25:=by
 have:=h.ok.il
 have:=h.ok.ol
 have:=h.rl
 unfold PPt.ws
 simp only [List.length_append,List.length_map,List.length_cons,List.length_nil]
 lia
theorem PtG.row{p:PPt}(h:PtG p):∀ ws∈p.ws,(∀ w∈ws,GW w)/\ws.length<=800/\ws≠[]:=by
 intro ws hw
 unfold PPt.ws at hw
 simp only [List.mem_append,List.mem_map,List.mem_singleton] at hw
 rcases hw with (((rfl | ⟨q,hq,rfl⟩) | ⟨q,hq,rfl⟩) | ⟨r,hr,rfl⟩) | rfl
 ·refine ⟨fun w hw=>?_,by show 2<=800;decide,by simp⟩
  simp only [List.mem_cons,List.not_mem_nil,or_false] at hw
  rcases hw with rfl | rfl
  ·exact t_j (by decide)
  ·exact h.ok.name.gw
 ·refine ⟨fun w hw=>?_,by show 3<=800;decide,by simp⟩
  have:=h.ok.ins q hq
  simp only [List.mem_cons,List.not_mem_nil,or_false] at hw
  rcases hw with rfl | rfl | rfl
  ·exact t_j (by decide)
  ·exact this.1.gw
  ·exact GW.nw (by have:=this.2.2;lia)
 ·refine ⟨fun w hw=>?_,by show 3<=800;decide,by simp⟩
  have:=h.ok.outs q hq
  simp only [List.mem_cons,List.not_mem_nil,or_false] at hw
  rcases hw with rfl | rfl | rfl
  ·exact t_j (by decide)
  ·exact this.1.gw
  ·exact GW.nw (by have:=this.2.2;lia)
 ·refine ⟨i_i (h.ok.rows r hr),h.rows r hr,fun e=>?_⟩
  rw [i_k] at e
  have:=congrArg List.length e
  rw [List.length_append,List.length_cons,List.length_nil] at this
  lia
 ·refine ⟨fun w hw=>?_,by show 1<=800;decide,by simp⟩
  rw [List.mem_singleton.mp hw]
  exact t_j (by decide)
theorem plan_tok{ps:List PPt}(h:∀ p∈ps,PtG p)(hl:ps.length<=3):TOkP (plnW ps):=by
 have hm:∀ ws∈plnW ps,(∀ w∈ws,GW w)/\ws.length<=800/\ws≠[]:=fun ws hw=>by
  obtain ⟨p,hp,hw⟩:=List.mem_flatMap.mp hw
  exact (h p hp).row ws hw
 refine ⟨fun ws hw=>(hm ws hw).1,fun ws hw=>(hm ws hw).2.1,?_,fun ws hw=>(hm ws hw).2.2⟩
 have:∀ qs:List PPt,(∀ p∈qs,PtG p)->(plnW qs).length<=qs.length*25:=by
  intro qs
  induction qs with
  | nil=>intro _;simp [plnW]
  | cons q qs ih =>
   intro h
   have h1:=(h q List.mem_cons_self).len
   have h2:=ih fun p hp=>h p (List.mem_cons_of_mem _ hp)
   show (q.ws++plnW qs).length<=_
   rw [List.length_append,List.length_cons]
   lia
 have:=this ps h
 lia
def n_p:Sp:=fun vs H Q _=>∃ (l nm:Addr) (names:List Str) (room:Int),vs=[.ref l,.ref nm,.int room]/\Bag H l/\H nm=some (.lst (names.map V.str))/\nm≠l/\1<=names.length/\names.length<=100/\(∀ z∈names,NmO z)/\1<=room/\room<=40/\∀ r v H',RwG r->Dat H' r.dat v->Bg l H H'->Q v H'
def m_y:Sp:=fun vs H Q _=>∃ (l:Addr),vs=[.ref l]/\Bag H l/\∀ (p:Addr) (ps:List PPt) (xs:List V) H',H p=none->Bg l H H'->H' p=some (.lst xs)->Dats H' (ps.map PPt.dat) xs->1<=ps.length->ps.length<=3->(∀ q∈ps,PtG q)->Q (.ref p) H'
theorem m_q{ps:List PPt}(h:∀ p∈ps,p.Ok):noLs (ps.map PPt.dat)=true:=x_g fun d hd=>by
 obtain ⟨p,hp,rfl⟩:=List.mem_map.mp hd
 exact s_o (h p hp)
theorem fn_or{P:Program}{w:World}{K:PySem.W.Frag}{mg:Str->Option Value}{base:Heap}{CX:CXT}{k:Nat}{f:Addr}{fd:FuncData}{ps:List Str}{s1 s2:Sp}(h1:FnOk P w K mg base CX k f fd ps s1)(h2:FnOk P w K mg base CX k f fd ps s2):FnOk P w K mg base CX k f fd ps (fun vs H Q E=>s1 vs H Q E\/s2 vs H Q E) :=
 ⟨fun vs H Q E q=>q.elim (h1.len vs H Q E) (h2.len vs H Q E),fun A outer s H args us vs Q E hr e b v q=>q.elim (h1.run A outer s H args us vs Q E hr e b v) (h2.run A outer s H args us vs Q E hr e b v)⟩
theorem Dat.nat{H:Hp}{n:Nat}{i:Int}(h:(n:Int)=i):Dat H (.int (n:Int)) (.int i):=h▸Dat.int _
theorem Dats.strs{H:Hp}:∀ ns:List Str,Dats H (ns.map PyData.str) (sV ns)
 | []=>.nil
 | n::ns=>.cons (Dat.str n) (Dats.strs ns)
theorem use_datP{H:Hp}{t5 t6:Addr}{a b:Str}{ss:List PyData}{ns:List Str}{ys:List V}(hs:Dats H ss ys)(h5:H t5=some (.tup ys))(h6:H t6=some (.tup (sV ns))):Dats H [.str a,.str b,.tuple ss,.tuple (ns.map PyData.str)] [.str a,.str b,.ref t5,.ref t6] :=
 .cons (Dat.str _) (.cons (Dat.str _) (.cons (Dat.tup h5 hs) (.cons (Dat.tup h6 (Dats.strs ns)) .nil)))
theorem Bg.free{l p:Addr}{H H':Hp}(g:Bg l H H')(h:H' p=none):H p=none:=by
 by_cases e:p=l
 ·exact absurd e (g.2.ne h)
 ·cases c:H p with
  | none=>rfl
  | some o=>rw [g.1 p o e c] at h;cases h
def nm7:List Str:=["in", "out", "end", "part", "use", "times", "box"]
theorem nm7_ok:∀ z∈nm7,NmO z:=by unfold NmO;decide +kernel
def drD(q:List (Str×Nat)):PyData:=.tuple (q.map portP)
theorem n_b(Qs:List (List (Str×Nat))):noLs (Qs.map drD)=true:=x_g fun d hd=>by
 obtain ⟨q,_,rfl⟩:=List.mem_map.mp hd
 have:=v_s q
 simp [drD,noL,this]
theorem n_d{rs:List PRw}(h:∀ r∈rs,RwG r):noLs (rs.map PRw.dat)=true:=x_g fun d hd=>by
 obtain ⟨r,hr,rfl⟩:=List.mem_map.mp hd
 exact n_c (h r hr).1
theorem door_eq(z x:Str)(k:Nat):Str.empty++z ++ " " ++ x ++ " " ++ Str.ofString (toString (k:Int))=rowT [z,x,nw k]:=by
 rw [y_n,y_n,x_d]
 refine w_u ?_
 show (((((#[]:Array Nat)++z.cps)++(" " : Str).cps)++x.cps)++(" " : Str).cps++(nw k).cps).toList=((z.cps++(" " : Str).cps)++((x.cps++(" " : Str).cps)++(nw k).cps)).toList
 simp
theorem part_eq(x:Str):("part " : Str)++x=rowT ["part",x]:=by
 rw [y_n,x_d]
 refine w_u ?_
 show (("part " : Str).cps++x.cps).toList=((("part" : Str).cps++(" " : Str).cps)++x.cps).toList
 rw [show ("part " : Str).cps=("part" : Str).cps++(" " : Str).cps from by decide]
def dorW(z:Str)(qs:List (Str×Nat)):List (List Str):=qs.map fun q=>([z,q.1,nw q.2]:List Str)
theorem part_ws(P:PPt):P.ws=([["part",P.name]]:List (List Str))++dorW "in" P.ins++dorW "out" P.outs++P.rows.map PRw.ws++([["end"]]:List (List Str)):=rfl
def rwV(rows:List (List Str)):List V:=(rows.map rowT).map V.str
theorem r_j(a b:List (List Str)):rwV (a++b)=rwV a++rwV b:=by unfold rwV;rw [List.map_append,List.map_append]
theorem t_h(a:List (List Str)):(rwV a).length=a.length:=by unfold rwV;rw [List.length_map,List.length_map]
theorem seq_mid{s rest:TS}{D:Ends}{σ:St}{H:Hp}(M:St->Hp->Prop)(h:∀ R:Ends,(∀ σ J,M σ J->R.nx σ J)->s R σ H)(h2:∀ σ J,M σ J->rest D σ J):tSeq s rest D σ H:=h { D with nx:=rest D } h2
section
variable {X:Cx} {e v₁ v₂:Expr} {rest es:List Expr} {te t1 t2:TE} {ts:List TE} {pos:Pos}
def tFmt(te:TE):TE:=fun σ H Q=>te σ H fun x H1=>(∃ s:Str,x = .str s/\s.length<=sizeLine/\Q (.str s) H1)\/(∃ n:Int,x = .int n/\n.natAbs.log2<1920/\Q (.str (toString n)) H1)
theorem w_v(he:PE X e te):PE X (.FormattedValue e (-1) none pos) (tFmt te):=by
 intro pins s σ H Q I h
 refine wpAny_FormattedValue_plain (thn (he pins s σ H _ I h) fun u s1 z=>?_)
 obtain ⟨x,H1,I1,r,q⟩:=z
 rcases q with ⟨y,rfl,hl,q⟩ | ⟨n,rfl,hn,q⟩
 ·obtain ⟨t,rfl⟩:=r
  exact wpAny_formatField_str ⟨.str y,_,I1,⟨_,rfl⟩,q⟩ ⟨.str y,_,I1.tok _,⟨_,rfl⟩,q⟩ hl
 ·obtain ⟨t,rfl⟩:=r
  exact wpAny_formatField_int hn ⟨.str _,_,I1.tok _,⟨_,rfl⟩,q⟩
def tJoins:List TE->Str->TE
 | [],acc=>fun _ H Q=>Q (.str acc) H
 | t::r,acc=>fun σ H Q=>t σ H fun x H1=>∃ y:Str,x = .str y/\(acc++y).length<=sizeLine/\tJoins r (acc++y) σ H1 Q
inductive PJ (X:Cx):List Expr->List TE->Prop
 | nil:PJ X [] []
 | cons {e:Expr} {te:TE} {es:List Expr} {ts:List TE}:PE X e te->PJ X es ts->PJ X (e::es) (te::ts)
theorem joins_ok(h:PJ X es ts):∀ {acc:Str} {pins:List (Addr×Obj)} {s:Shared} {σ:St} {H:Hp} {Q:VK},acc.length<=sizeLine->Inv X pins σ H s->tJoins ts acc σ H Q ->
  Joins (model X.prog X.w) X.A X.xe (evalEach es X.env) acc (fun out s1=>out.length<=sizeLine/\EP X pins σ Q (.str out s1.toks) { s1 with toks:=s1.toks+1 }) s:=by
 induction h with
 | nil=>exact fun hl I q=>⟨hl,.str _,_,I.tok _,⟨_,rfl⟩,q⟩
 | cons he _ ih =>
  intro acc pins s σ H Q hl I q
  refine thn (he pins s σ H _ I q) fun u s1 z=>?_
  obtain ⟨x,H1,I1,r,y,rfl,hz,q⟩:=z
  obtain ⟨t,rfl⟩:=r
  exact ⟨y,t,rfl,hz,ih hz I1 q⟩
theorem t_g(h:PJ X (v₁::v₂::rest) ts):PE X (.JoinedStr (v₁::v₂::rest) pos) (tJoins ts Str.empty):=fun pins s σ H Q I q=>wpAny_JoinedStr (joins_ok h (Nat.zero_le _) I q)
end
end L2
namespace K63
open PySem L2
def top(i:Nat):Stmt:=PySem.Challenge.pw_lampforge_k63_plans_written_and_read.main.body.getD i (.Pass ⟨0,0,0,0⟩)
abbrev w_m:Stmt:=top 5
abbrev v_b:Stmt:=top 6
abbrev w_o:Stmt:=top 7
abbrev v_z:Stmt:=top 8
abbrev v_w:Stmt:=top 13
abbrev w_l:Stmt:=top 14
abbrev u_s:Stmt:=top 15
abbrev u_o:Stmt:=top 16
abbrev v_x:Stmt:=top 17
abbrev t_y:Stmt:=top 18
abbrev w_z:Stmt:=top 19
abbrev v_a:Stmt:=top 26
abbrev w_y:Stmt:=top 27
abbrev x_u:Stmt:=top 28
abbrev w_q:Stmt:=top 29
abbrev u_q:Stmt:=top 35
abbrev u_p:Stmt:=top 36
abbrev x_v:Stmt:=top 37
abbrev v_v:Stmt:=top 38
abbrev u_r:Stmt:=top 39
abbrev t_w:Stmt:=top 40
abbrev t_x:Stmt:=top 41
abbrev u_t:Stmt:=top 43
abbrev u_u:Stmt:=top 44
abbrev x_x:Stmt:=top 45
abbrev x_l:Stmt:=top 46
abbrev v_f:Stmt:=top 49
abbrev v_e:Stmt:=top 50
abbrev v_g:Stmt:=top 51
abbrev v_y:Stmt:=top 52
abbrev x_k:Stmt:=top 53
abbrev x_w:Stmt:=top 54
abbrev v_d:Stmt:=top 55
abbrev w_p:Stmt:=top 56
abbrev w_n:Stmt:=top 57
abbrev v_c:Stmt:=top 58
abbrev x_m:Stmt:=top 59
abbrev x_b:Stmt:=top 60
abbrev r_l:Stmt:=top 62
abbrev t_u:Stmt:=top 63
abbrev t_q:Stmt:=top 64
abbrev u_n:Stmt:=top 65
abbrev r_k:Stmt:=top 66
abbrev r_m:Stmt:=top 67
abbrev t_r:Stmt:=top 68
abbrev t_s:Stmt:=top 69
abbrev w_k:Stmt:=top 70
abbrev t_v:Stmt:=top 71
abbrev t_t:Stmt:=top 72
abbrev i_l:Stmt:=top 73
theorem p_b:FnScope ["word"] ["word"] (z_m w_m):=⟨rfl,rfl,rfl,by decide +kernel,rfl,by decide +kernel,by decide +kernel⟩
theorem o_l:FnScope ["word"] ["word"] (z_m v_b):=⟨rfl,rfl,rfl,by decide +kernel,rfl,by decide +kernel,by decide +kernel⟩
theorem p_d:FnScope ["words"] ["words"] (z_m w_o):=⟨rfl,rfl,rfl,by decide +kernel,rfl,by decide +kernel,by decide +kernel⟩
theorem n_o:FnScope ["numbers"] ["numbers"] (z_m v_z):=⟨rfl,rfl,rfl,by decide +kernel,rfl,by decide +kernel,by decide +kernel⟩
theorem n_m:FnScope ["thing"] ["thing"] (z_m v_w):=⟨rfl,rfl,rfl,by decide +kernel,rfl,by decide +kernel,by decide +kernel⟩
theorem p_a:FnScope ["thing", "low", "high"] ["thing", "low", "high"] (z_m w_l):=⟨rfl,rfl,rfl,by decide +kernel,rfl,by decide +kernel,by decide +kernel⟩
theorem k_j:FnScope ["thing"] ["thing"] (z_m u_s):=⟨rfl,rfl,rfl,by decide +kernel,rfl,by decide +kernel,by decide +kernel⟩
theorem k_g:FnScope ["thing"] ["thing"] (z_m u_o):=⟨rfl,rfl,rfl,by decide +kernel,rfl,by decide +kernel,by decide +kernel⟩
theorem n_n:FnScope ["thing"] ["thing"] (z_m v_x):=⟨rfl,rfl,rfl,by decide +kernel,rfl,by decide +kernel,by decide +kernel⟩
theorem sc_two_to:FnScope ["many", "power", "step"] ["many"] (z_m t_y):=⟨rfl,rfl,rfl,by decide +kernel,rfl,by decide +kernel,by decide +kernel⟩
theorem o_k:FnScope ["thing", "width"] ["thing", "width"] (z_m w_z):=⟨rfl,rfl,rfl,by decide +kernel,rfl,by decide +kernel,by decide +kernel⟩
theorem sc_is_saying:FnScope ["thing", "level", "deep", "pieces", "below", "piece"] ["thing"] (z_m v_a):=⟨rfl,rfl,rfl,by decide +kernel,rfl,by decide +kernel,by decide +kernel⟩
theorem sc_is_formed:FnScope ["thing", "word"] ["thing"] (z_m w_y):=⟨rfl,rfl,rfl,by decide +kernel,rfl,by decide +kernel,by decide +kernel⟩
theorem q_b:FnScope ["thing", "width"] ["thing", "width"] (z_m x_u):=⟨rfl,rfl,rfl,by decide +kernel,rfl,by decide +kernel,by decide +kernel⟩
theorem p_e:FnScope ["saying"] ["saying"] (z_m w_q):=⟨rfl,rfl,rfl,by decide +kernel,rfl,by decide +kernel,by decide +kernel⟩
theorem k_h:FnScope ["thing"] ["thing"] (z_m u_q):=⟨rfl,rfl,rfl,by decide +kernel,rfl,by decide +kernel,by decide +kernel⟩
theorem sc_is_part:FnScope ["thing", "ports"] ["thing"] (z_m u_p):=⟨rfl,rfl,rfl,by decide +kernel,rfl,by decide +kernel,by decide +kernel⟩
theorem q_c:FnScope ["thing", "many"] ["thing", "many"] (z_m x_v):=⟨rfl,rfl,rfl,by decide +kernel,rfl,by decide +kernel,by decide +kernel⟩
theorem n_l:FnScope ["thing", "most"] ["thing", "most"] (z_m v_v):=⟨rfl,rfl,rfl,by decide +kernel,rfl,by decide +kernel,by decide +kernel⟩
theorem k_i:FnScope ["thing"] ["thing"] (z_m u_r):=⟨rfl,rfl,rfl,by decide +kernel,rfl,by decide +kernel,by decide +kernel⟩
theorem i_p:FnScope ["thing"] ["thing"] (z_m t_w):=⟨rfl,rfl,rfl,by decide +kernel,rfl,by decide +kernel,by decide +kernel⟩
theorem i_q:FnScope ["thing"] ["thing"] (z_m t_x):=⟨rfl,rfl,rfl,by decide +kernel,rfl,by decide +kernel,by decide +kernel⟩
theorem sc_rows_of:FnScope ["text", "rows", "row"] ["text"] (z_m u_t):=⟨rfl,rfl,rfl,by decide +kernel,rfl,by decide +kernel,by decide +kernel⟩
theorem k_k:FnScope ["rows"] ["rows"] (z_m u_u):=⟨rfl,rfl,rfl,by decide +kernel,rfl,by decide +kernel,by decide +kernel⟩
theorem sc_sections_of:FnScope ["rows", "words", "sections", "place", "word", "start"] ["rows", "words"] (z_m x_x):=⟨rfl,rfl,rfl,by decide +kernel,rfl,by decide +kernel,by decide +kernel⟩
theorem r_p:FnScope ["row", "many"] ["row", "many"] (z_m x_l):=⟨rfl,rfl,rfl,by decide +kernel,rfl,by decide +kernel,by decide +kernel⟩
theorem sc_read_plan:FnScope ["text", "plan", "rows", "row"] ["text"] (z_m v_f):=⟨rfl,rfl,rfl,by decide +kernel,rfl,by decide +kernel,by decide +kernel⟩
theorem sc_read_part:FnScope ["rows", "sections", "name", "ins", "outs"] ["rows"] (z_m v_e):=⟨rfl,rfl,rfl,by decide +kernel,rfl,by decide +kernel,by decide +kernel⟩
theorem sc_read_port:FnScope ["row", "words"] ["row"] (z_m v_g):=⟨rfl,rfl,rfl,by decide +kernel,rfl,by decide +kernel,by decide +kernel⟩
theorem sc_read_row:FnScope ["row", "middle", "head", "sayings"] ["row"] (z_m v_y):=⟨rfl,rfl,rfl,by decide +kernel,rfl,by decide +kernel,by decide +kernel⟩
theorem sc_read_sayings:FnScope ["words", "sayings", "place", "read"] ["words"] (z_m x_k):=⟨rfl,rfl,rfl,by decide +kernel,rfl,by decide +kernel,by decide +kernel⟩
theorem sc_read_saying:FnScope ["words", "place", "deep", "read", "saying", "form", "inner"] ["words", "place", "deep"] (z_m x_w):=⟨rfl,rfl,rfl,by decide +kernel,rfl,by decide +kernel,by decide +kernel⟩
theorem sc_read_leaf:FnScope ["word", "middle"] ["word"] (z_m v_d):=⟨rfl,rfl,rfl,by decide +kernel,rfl,by decide +kernel,by decide +kernel⟩
theorem sc_read_front:FnScope ["words", "place", "word", "behind", "start", "sizes"] ["words", "place"] (z_m w_p):=⟨rfl,rfl,rfl,by decide +kernel,rfl,by decide +kernel,by decide +kernel⟩
theorem p_c:FnScope ["words", "start", "behind"] ["words", "start", "behind"] (z_m w_n):=⟨rfl,rfl,rfl,by decide +kernel,rfl,by decide +kernel,by decide +kernel⟩
theorem sc_plan_text:FnScope ["plan", "rows", "part"] ["plan"] (z_m v_c):=⟨rfl,rfl,rfl,by decide +kernel,rfl,by decide +kernel,by decide +kernel⟩
theorem sc_words_of_row:FnScope ["row", "head", "words", "saying"] ["row"] (z_m x_m):=⟨rfl,rfl,rfl,by decide +kernel,rfl,by decide +kernel,by decide +kernel⟩
theorem sc_words_of_saying:FnScope ["saying", "word", "behind", "words", "inner"] ["saying"] (z_m x_b):=⟨rfl,rfl,rfl,by decide +kernel,rfl,by decide +kernel,by decide +kernel⟩
theorem sc_L_bag:FnScope ["_law_script", "_law_at", "_law_cell", "_law_mix", "_law_k"] ["_law_script", "_law_at"] (z_m r_l):=⟨rfl,rfl,rfl,by decide +kernel,rfl,by decide +kernel,by decide +kernel⟩
theorem sc_L_take:FnScope ["_law_bag_here", "_law_many", "_law_digit"] ["_law_bag_here", "_law_many"] (z_m t_u):=⟨rfl,rfl,rfl,by decide +kernel,rfl,by decide +kernel,by decide +kernel⟩
theorem sc_L_name:FnScope ["_law_bag_here", "_law_name_here", "_law_k"] ["_law_bag_here"] (z_m t_q):=⟨rfl,rfl,rfl,by decide +kernel,rfl,by decide +kernel,by decide +kernel⟩
theorem sc_L_rooms:FnScope ["_law_bag_here", "_law_room", "_law_many", "_law_left", "_law_rooms_here", "_law_k", "_law_more"] ["_law_bag_here", "_law_room", "_law_many"] (z_m u_n):=⟨rfl,rfl,rfl,by decide +kernel,rfl,by decide +kernel,by decide +kernel⟩
theorem sc_L_any:FnScope ["_law_bag_here", "_law_names", "_law_deep", "_law_room", "_law_words", "_law_at", "_law_many", "_law_width", "_law_parts", "_law_numbers"] ["_law_bag_here", "_law_names", "_law_deep", "_law_room"] (z_m r_k):=⟨rfl,rfl,rfl,by decide +kernel,rfl,by decide +kernel,by decide +kernel⟩
theorem sc_L_row:FnScope ["_law_bag_here", "_law_names", "_law_room", "_law_kind", "_law_width", "_law_sayings", "_law_some", "_law_use"] ["_law_bag_here", "_law_names", "_law_room"] (z_m r_m):=⟨rfl,rfl,rfl,by decide +kernel,rfl,by decide +kernel,by decide +kernel⟩
theorem sc_L_plan:FnScope ["_law_bag_here", "_law_names", "_law_plan_here", "_law_k", "_law_doors", "_law_side", "_law_many", "_law_rows", "_law_j"] ["_law_bag_here"] (z_m t_r):=⟨rfl,rfl,rfl,by decide +kernel,rfl,by decide +kernel,by decide +kernel⟩
theorem sc_L_said:FnScope ["_law_saying", "_law_text_here", "_law_one"] ["_law_saying"] (z_m t_s):=⟨rfl,rfl,rfl,by decide +kernel,rfl,by decide +kernel,by decide +kernel⟩
theorem sc_L_row_text:FnScope ["_law_row_here", "_law_text_here", "_law_name_here", "_law_saying"] ["_law_row_here"] (z_m w_k):=⟨rfl,rfl,rfl,by decide +kernel,rfl,by decide +kernel,by decide +kernel⟩
theorem sc_L_text:FnScope ["_law_plan_here", "_law_rows", "_law_name_here", "_law_ins", "_law_outs", "_law_some", "_law_word", "_law_doors", "_law_one", "_law_width"] ["_law_plan_here"] (z_m t_v):=⟨rfl,rfl,rfl,by decide +kernel,rfl,by decide +kernel,by decide +kernel⟩
theorem i_o:FnScope ["_law_found", "_law_due"] ["_law_found", "_law_due"] (z_m t_t):=⟨rfl,rfl,rfl,by decide +kernel,rfl,by decide +kernel,by decide +kernel⟩
theorem sc_law:FnScope ["_law_script", "_law_at", "_law_plan_here", "_law_due", "_law_handed", "_law_found", "_law_again", "_law_back"] ["_law_script"] (z_m i_l):=⟨rfl,rfl,rfl,by decide +kernel,rfl,by decide +kernel,by decide +kernel⟩
set_option genInjectivity false in
set_option genSizeOfSpec false in
structure Ad where
 a_is_figures:Addr
 d_is_figures:FuncData
 a_number_of:Addr
 d_number_of:FuncData
 a_numbers_of:Addr
 d_numbers_of:FuncData
 a_words_of:Addr
 d_words_of:FuncData
 a_is_whole:Addr
 d_is_whole:FuncData
 a_is_between:Addr
 d_is_between:FuncData
 a_is_word:Addr
 d_is_word:FuncData
 a_is_name:Addr
 d_is_name:FuncData
 a_is_width:Addr
 d_is_width:FuncData
 a_two_to:Addr
 d_two_to:FuncData
 a_is_number:Addr
 d_is_number:FuncData
 a_is_saying:Addr
 d_is_saying:FuncData
 a_is_formed:Addr
 d_is_formed:FuncData
 a_are_numbers:Addr
 d_are_numbers:FuncData
 a_sayings_in:Addr
 d_sayings_in:FuncData
 a_is_plan:Addr
 d_is_plan:FuncData
 a_is_part:Addr
 d_is_part:FuncData
 a_is_tuple_of:Addr
 d_is_tuple_of:FuncData
 a_is_short:Addr
 d_is_short:FuncData
 a_is_port:Addr
 d_is_port:FuncData
 a_is_row:Addr
 d_is_row:FuncData
 a_is_use:Addr
 d_is_use:FuncData
 a_rows_of:Addr
 d_rows_of:FuncData
 a_text_of:Addr
 d_text_of:FuncData
 a_sections_of:Addr
 d_sections_of:FuncData
 a_words_behind:Addr
 d_words_behind:FuncData
 a_read_plan:Addr
 d_read_plan:FuncData
 a_read_part:Addr
 d_read_part:FuncData
 a_read_port:Addr
 d_read_port:FuncData
 a_read_row:Addr
 d_read_row:FuncData
 a_read_sayings:Addr
 d_read_sayings:FuncData
 a_read_saying:Addr
 d_read_saying:FuncData
 a_read_leaf:Addr
 d_read_leaf:FuncData
 a_read_front:Addr
 d_read_front:FuncData
 a_numbers_at:Addr
 d_numbers_at:FuncData
 a_plan_text:Addr
 d_plan_text:FuncData
 a_words_of_row:Addr
 d_words_of_row:FuncData
 a_words_of_saying:Addr
 d_words_of_saying:FuncData
 a_L_bag:Addr
 d_L_bag:FuncData
 a_L_take:Addr
 d_L_take:FuncData
 a_L_name:Addr
 d_L_name:FuncData
 a_L_rooms:Addr
 d_L_rooms:FuncData
 a_L_any:Addr
 d_L_any:FuncData
 a_L_row:Addr
 d_L_row:FuncData
 a_L_plan:Addr
 d_L_plan:FuncData
 a_L_said:Addr
 d_L_said:FuncData
 a_L_row_text:Addr
 d_L_row_text:FuncData
 a_L_text:Addr
 d_L_text:FuncData
 a_L_same:Addr
 d_L_same:FuncData
 a_law:Addr
 d_law:FuncData
 a_FORMS:Addr
 a_TABLE_SIZES:Addr
def o_q:Sp:=fun vs H Q _=>∃ m:Int,vs=[.int m]/\0<=m/\m<=100/\Q (.int (2^m.toNat)) H
theorem l_t{kvs:List (Str×V)}{z:Str}:(kvs.lookup z).isSome=decide (z∈kvs.map (·.1)):=by
 induction kvs with
 | nil=>rfl
 | cons p r ih =>
  obtain ⟨k,v⟩:=p
  rw [List.lookup_cons]
  by_cases h:z=k
  ·subst h;simp
  ·have h1:(z == k)=false:=by simpa using h
   rw [h1]
   show (r.lookup z).isSome=_
   rw [ih]
   simp [h]
theorem lt_one(a b:Nat):decide (([a]:List Nat)<[b])=decide (a<b):=by
 rw [decide_eq_decide]
 simp [List.cons_lt_cons_iff]
theorem betD_int{d:PyData}{lo hi:Int}(h:betD d lo hi=true):∃ k:Int,d = .int k/\lo<=k/\k<=hi:=by
 unfold betD at h
 cases d with
 | int k=>simp at h;exact ⟨k,rfl,h.1,h.2⟩
 | _=>cases h
theorem szD_str{z:Str}(h:szD (.str z)=true):z.length<=100:=by
 simp only [szD] at h
 exact of_decide_eq_true h
theorem s_z{d:PyData}(h:formD d=true):∃ z dr,d = .tuple (.str z::dr)/\z∈words/\dr.length+1=formN z:=by
 unfold formD at h
 split at h
 ·rename_i z r
  simp only [Bool.and_eq_true,decide_eq_true_eq] at h
  exact ⟨z,r,rfl,h.1.1,h.1.2⟩
 ·cases h
theorem m_d(z:Str)(h:z∈words):formK z<=formN z/\1<=formK z/\formN z<=formK z+3:=by
 have:∀ z∈words,formK z<=formN z/\1<=formK z/\formN z<=formK z+3:=by decide
 exact this z h
theorem sub_len{d:PyData}(h:formD d=true):(subD d).length<=3:=by
 obtain ⟨z,dr,rfl,hz,hn⟩:=s_z h
 have:=m_d z hz
 simp only [subD,List.length_drop]
 lia
theorem j_c{L:List PyData}:∀ {i:Nat},(L.take i).all formD=true->((L.take i).flatMap subD).length<=3*L.length:=by
 intro i h
 have key:∀ M:List PyData,M.all formD=true->(M.flatMap subD).length<=3*M.length:=by
  intro M
  induction M with
  | nil=>simp
  | cons x r ih =>
   intro h
   rw [List.all_cons,Bool.and_eq_true] at h
   rw [List.flatMap_cons,List.length_append,List.length_cons]
   have:=sub_len h.1
   have:=ih h.2
   lia
 have:=key _ h
 rw [List.length_take] at this
 lia
theorem sub_sz{d e:PyData}(h:szD d=true)(he:e∈subD d):szD e=true:=by
 unfold subD at he
 split at he
 ·rename_i z r
  have hs:=(szD_tup.mp h).2
  exact hs e (List.mem_cons_of_mem _ (List.mem_of_mem_drop he))
 ·cases he
theorem s_y{P:Program}{w:World}{K:PySem.W.Frag}{mg:Str->Option Value}{base:Heap}{k:Nat}{f:Addr}{fd:FuncData}{ps:List Str}{sp:Sp}(h:∀ vs H Q E,¬sp vs H Q E):FnOk P w K mg base CX0 k f fd ps sp :=
 ⟨fun vs H Q E q=>(h _ _ _ _ q).elim,fun _ _ _ _ _ _ _ _ _ _ _ _ _ q=>(h _ _ _ _ q).elim⟩
def i_s(K:PySem.W.Frag):Sp:=fun vs H Q _=>∃ (a:Addr) (ns:List Int),vs=[.ref a]/\SqL K H a (ns.map V.int)/\ns.length<=63/\∀ H',Q (.bl true) H'
theorem m_f(z:Str)(ws:List Str):inV (V.str z) (ws.map V.str)=decide (z∈ws):=by
 induction ws with
 | nil=>rfl
 | cons w r ih =>
  show (eqV (.str w) (.str z) || inV (V.str z) (r.map V.str))=_
  rw [ih]
  show ((w == z) || _)=_
  by_cases h:z=w
  ·subst h;simp
  ·have h2:¬w=z:=fun e=>h e.symm
   simp [h,h2]
def dpt:Nat->PyData->Bool
 | 0,.tuple _=>false
 | n+1,.tuple ds=>decide (ds.length<=20)&&ds.all (dpt n)
 | _,_=>true
theorem v_j{n:Nat}{d:PyData}(h:dTup d=false):dpt n d=true:=by
 cases n<;>cases d<;>first | rfl | cases h
theorem m_a{n:Nat}{ds:List PyData}(h1:ds.length<=20)(h2:∀ d∈ds,dpt n d=true):dpt (n+1) (.tuple ds)=true:=by
 show (decide (ds.length<=20)&&ds.all (dpt n))=true
 rw [decide_eq_true h1,List.all_eq_true.mpr h2]
 rfl
theorem noL_tup{ds:List PyData}:noL (.tuple ds)=true↔∀ d∈ds,noL d=true:=by
 simp only [noL]
 refine ⟨fun h=>?_,x_g⟩
 induction ds with
 | nil=>intro d hd;cases hd
 | cons x r ih =>
  have n':noL x=true/\noLs r=true:=by simpa [noLs] using h
  intro d hd
  rcases List.mem_cons.mp hd with rfl | h2
  ·exact n'.1
  ·exact ih n'.2 d h2
theorem q_l(z:Str)(dr:List PyData):formD (.tuple (.str z::dr))=(decide (z∈words)&&decide (dr.length+1=formN z)&&restD z dr):=rfl
theorem pcs_mk{n:Nat}{z:Str}{hd ds:List PyData}(hz:z∈words)(hn:hd.length+ds.length+1=formN z)(hk:formK z=hd.length+1)(hr:restD z (hd++ds)=true)(hs:∀ x∈ds,0<pcs n x):pcs (n+1) (.tuple (.str z::(hd++ds)))=1+(ds.map (pcs n)).sum:=by
 have hsub:subD (.tuple (.str z::(hd++ds)))=ds:=by
  show (hd++ds).drop (formK z-1)=ds
  rw [hk,Nat.add_sub_cancel,List.drop_left]
 have hf:formD (.tuple (.str z::(hd++ds)))=true:=by
  rw [q_l,hr,decide_eq_true hz,decide_eq_true (by rw [List.length_append];exact hn)]
  rfl
 have hp:0<pcs (n+1) (.tuple (.str z::(hd++ds))):=pcs_pos.mpr ⟨hf,by rw [hsub];exact hs⟩
 rw [u_d hp,hsub]
def GoodD(n:Nat)(d:PyData)(room:Int):Prop:=noL d=true/\szD d=true/\dpt n d=true/\0<pcs n d/\((pcs n d:Nat):Int)<=room
theorem word_len{z:Str}(h:z∈words):z.length<=100:=by
 have:∀ z∈words,z.length<=100:=by decide
 exact this z h
theorem good_mk{n:Nat}{z:Str}{hd ds:List PyData}{room:Int}(hz:z∈words)(hn:hd.length+ds.length+1=formN z)(hk:formK z=hd.length+1)(hr:restD z (hd++ds)=true)
  (hh:∀ d∈hd,noL d=true/\szD d=true/\dpt n d=true) (hs:∀ d∈ds,noL d=true/\szD d=true/\dpt n d=true/\0<pcs n d) (hsum:(((ds.map (pcs n)).sum:Nat):Int)+1<=room):GoodD (n+1) (.tuple (.str z::(hd++ds))) room:=by
 have hall:∀ d∈PyData.str z::(hd++ds),noL d=true/\szD d=true/\dpt n d=true:=fun d hd'=>by
  rcases List.mem_cons.mp hd' with rfl | h
  ·exact ⟨by simp [noL],by simp only [szD];exact decide_eq_true (word_len hz),v_j rfl⟩
  ·rcases List.mem_append.mp h with h | h
   ·exact hh d h
   ·exact ⟨(hs d h).1,(hs d h).2.1,(hs d h).2.2.1⟩
 have hp:=pcs_mk (n:=n) hz hn hk hr fun x hx=>(hs x hx).2.2.2
 have hfn:formN z<=4:=by unfold formN;repeat (first | lia | split)
 refine ⟨noL_tup.mpr fun d h=>(hall d h).1,szD_tup.mpr ⟨by rw [List.length_cons,List.length_append];lia,fun d h=>(hall d h).2.1⟩,m_a (by rw [List.length_cons,List.length_append];lia) fun d h=>(hall d h).2.2,by rw [hp];lia,by rw [hp];lia⟩
def u_w:Sp:=fun vs H Q _=>∃ (l:Addr),vs=[.ref l]/\Bag H l/\∀ (z:Str) H',nameD (.str z)=true->Bg l H H'->Q (.str z) H'
def s_h:Sp:=fun vs H Q _=>∃ (l:Addr) (room many:Int),vs=[.ref l,.int room,.int many]/\Bag H l/\0<=many/\many<=3/\many<=room/\room<=1000/\∀ p (rs:List Int) H',H p=none->p≠l->Bg l H H'->H' p=some (.lst (rs.map V.int))->(rs.length:Int)=many->(∀ r∈rs,1<=r/\r<=1001)->rs.sum<=room->Q (.ref p) H'
theorem m_o{n:Nat}{d:PyData}(hf:formD d=true)(hs:subD d=[]):pcs (n+1) d=1:=by
 have hp:0<pcs (n+1) d:=pcs_pos.mpr ⟨hf,by rw [hs];intro x hx;cases hx⟩
 rw [u_d hp,hs]
 rfl
theorem j_r{z:Str}(h:nameD (.str z)=true):z.length<=8:=by
 simp only [nameD,Bool.and_eq_true,decide_eq_true_eq] at h
 exact h.1.1.2
theorem v_r{n:Nat}{z:Str}{room:Int}(h:nameD (.str z)=true)(hr:1<=room):GoodD (n+1) (.tuple [.str "wire",.str z]) room:=by
 have hf:formD (.tuple [.str "wire",.str z])=true:=by
  rw [q_l]
  show (decide (("wire" : Str)∈words)&&decide (1+1=formN "wire")&&nameD (.str z))=true
  rw [h]
  decide
 have hp:=m_o (n:=n) hf rfl
 have hz:=j_r h
 refine ⟨by simp [noL,noLs],szD_tup.mpr ⟨(by show 2<=100;decide),fun d hd=>?_⟩,m_a (by show 2<=20;decide) fun d hd=>?_,by rw [hp];lia,by rw [hp];lia⟩
 ·simp only [List.mem_cons,List.not_mem_nil,or_false] at hd
  rcases hd with rfl | rfl<;>simp only [szD]
  ·decide
  ·exact decide_eq_true (by lia)
 ·simp only [List.mem_cons,List.not_mem_nil,or_false] at hd
  rcases hd with rfl | rfl<;>exact v_j rfl
theorem m_k{i w:Int}(h1:1<=w)(h8:w<=8)(h0:0<=i)(h:i<2^w.toNat):numD (.int i) (.int w)=true:=by
 show (betD (.int w) 1 8&&betD (.int i) 0 (2^w.toNat-1))=true
 show ((decide (1<=w)&&decide (w<=8))&&(decide (0<=i)&&decide (i<=2^w.toNat-1)))=true
 rw [decide_eq_true h1,decide_eq_true h8,decide_eq_true h0,decide_eq_true (by lia)]
 rfl
theorem q_m{n:Nat}{i w:Int}{room:Int}(h1:1<=w)(h8:w<=8)(h0:0<=i)(h:i<2^w.toNat)(hr:1<=room):GoodD (n+1) (.tuple [.str "number",.int i,.int w]) room:=by
 have hf:formD (.tuple [.str "number",.int i,.int w])=true:=by
  rw [q_l]
  show (decide (("number" : Str)∈words)&&decide (2+1=formN "number")&&numD (.int i) (.int w))=true
  rw [m_k h1 h8 h0 h]
  decide
 have hp:=m_o (n:=n) hf rfl
 refine ⟨by simp [noL,noLs],szD_tup.mpr ⟨(by show 3<=100;decide),fun d hd=>?_⟩,m_a (by show 3<=20;decide) fun d hd=>?_,by rw [hp];lia,by rw [hp];lia⟩
 ·simp only [List.mem_cons,List.not_mem_nil,or_false] at hd
  rcases hd with rfl | rfl | rfl<;>simp only [szD]
  decide
 ·simp only [List.mem_cons,List.not_mem_nil,or_false] at hd
  rcases hd with rfl | rfl | rfl<;>exact v_j rfl
def manyL:List Int:=[1,2,2,2,2,2,2,2,2,3,1,1,1,1,0,0,0,0]
def wordL:List Str:=["not", "and", "or", "odd", "sum", "less", "under", "same", "join", "choice", "up", "down", "cut", "table"]
theorem many_at{k:Nat}(h:k<18):(manyL.map V.int)[k]? = some (.int (manyL.getD k 0)):=by
 have h':k<manyL.length:=h
 rw [List.getElem?_map,List.getElem?_eq_getElem h',List.getD_eq_getElem?_getD,List.getElem?_eq_getElem h']
 rfl
theorem many_in:∀ k,k<18->0<=manyL.getD k 0/\manyL.getD k 0<=3:=by decide
theorem word_at{k:Nat}(h:k<14):(wordL.map V.str)[k]? = some (.str (wordL.getD k "")):=by
 have h':k<wordL.length:=h
 rw [List.getElem?_map,List.getElem?_eq_getElem h',List.getD_eq_getElem?_getD,List.getElem?_eq_getElem h']
 rfl
theorem word_in:∀ k,k<14->wordL.getD k "" ∈ words/\((formN (wordL.getD k ""):Nat):Int)=manyL.getD k 0+((formK (wordL.getD k ""):Nat):Int)/\formK (wordL.getD k "")=(if k=10\/k=11 then 2 else if k=12\/k=13 then 3 else 1)/\(k=12->wordL.getD k "" = "cut")/\(k=13->wordL.getD k "" = "table")/\(k=10->wordL.getD k "" = "up")/\(k=11->wordL.getD k "" = "down"):=by decide
theorem cut_ne:∀ k,k<14->k≠12->wordL.getD k "" ≠ "cut" := by decide
theorem tab_ne:∀ k,k<14->k≠13->wordL.getD k "" ≠ "table" := by decide
theorem up_ne:∀ k,k<14->k≠10->k≠11->¬(wordL.getD k "" = "up" \/ wordL.getD k "" = "down"):=by decide
theorem wn_ne:∀ k,k<14->wordL.getD k "" ≠ "wire" /\ wordL.getD k "" ≠ "number" := by decide
theorem r_q{c e:Int}(c1:0<c)(c2:c<=2)(h:e<=12):0<c*2^e.toNat/\c*2^e.toNat<=8192:=by
 have h1:e.toNat<=12:=by lia
 have h2:(2:Nat)^e.toNat<=4096:=Nat.pow_le_pow_right (n:=2) (by decide) h1
 have h3:0<(2:Nat)^e.toNat:=Nat.pow_pos (by decide)
 have h4:((2:Int)^e.toNat)=(((2:Nat)^e.toNat:Nat):Int):=by rw [Int.natCast_pow];rfl
 rw [h4]
 generalize (2:Nat)^e.toNat=N at h2 h3
 have:c=1\/c=2:=by lia
 rcases this with rfl | rfl<;>lia
theorem tab_len{e:Int}(h0:0<=e)(h:e<4):(2:Int)*2^e.toNat=2\/(2:Int)*2^e.toNat=4\/(2:Int)*2^e.toNat=8\/(2:Int)*2^e.toNat=16:=by
 have:e=0\/e=1\/e=2\/e=3:=by lia
 rcases this with rfl | rfl | rfl | rfl
 ·exact .inl (by decide)
 ·exact .inr (.inl (by decide))
 ·exact .inr (.inr (.inl (by decide)))
 ·exact .inr (.inr (.inr (by decide)))
def w13:List Str:=["wire", "number", "not", "and", "or", "odd", "sum", "less", "under", "same", "choice", "up", "down"]
def w3:List Str:=["join", "cut", "table"]
theorem words_eq:words=w13++w3:=rfl
theorem l_p:∀ c∈("abcdefghijklmnopqrstuvwxyz" : Str).cps.toList,letterB c=true:=by decide
def r_r(n:Nat):Sp:=fun vs H Q _=>∃ (l nm:Addr) (names:List Str) (room:Int),vs=[.ref l,.ref nm,.int n,.int room]/\1<=n/\Bag H l/\H nm=some (.lst (names.map V.str))/\nm≠l/\1<=names.length/\names.length<=100/\(∀ z∈names,nameD (.str z)=true)/\1<=room/\room<=1001/\∀ d v H',GoodD n d room->Dat H' d v->Bg l H H'->Q v H'
def sp_any36:Sp:=fun vs H Q E=>r_r 6 vs H Q E\/r_r 3 vs H Q E
theorem m_e{d:PyData}{room:Int}(g:GoodD 6 d room)(h:room<=40):SyOk d:=⟨g.2.1,decide_eq_true ⟨g.2.2.2.1,by have:=g.2.2.2.2;lia⟩,g.1⟩
theorem good_sy3{d:PyData}(g:GoodD 3 d 5):SyOk d/\pcs 6 d<=5:=by
 have e:=pcs_36 g.2.2.2.1
 have h1:=g.2.2.2.1
 have h2:=g.2.2.2.2
 have h5:pcs 6 d<=5:=by lia
 exact ⟨⟨g.2.1,decide_eq_true ⟨by lia,by lia⟩,g.1⟩,h5⟩
structure Tx(w:World)(K:PySem.W.Frag)(mg:Str->Option Value)(A:Ad):Prop where
 abs:mg "abs" = none
 all:mg "all" = none
 bool:mg "bool" = none
 int:mg "int" = none
 isinstance:mg "isinstance" = none
 len:mg "len" = none
 list:mg "list" = none
 max:mg "max" = none
 min:mg "min" = none
 range:mg "range" = none
 str:mg "str" = none
 tuple:mg "tuple" = none
 zip:mg "zip" = none
 g_MOST_FIGURES:∃ t,mg "MOST_FIGURES" = some (.int 9 t)
 g_MOST_LETTERS:∃ t,mg "MOST_LETTERS" = some (.int 8 t)
 g_MOST_WIDTH:∃ t,mg "MOST_WIDTH" = some (.int 8 t)
 g_FORMS:mg "FORMS" = some (.ref A.a_FORMS)
 D_FORMS:∃ kvs,TopD w K A.a_FORMS kvs/\kvs.map (·.1)=words/\∀ z∈words,∃ p,kvs.lookup z=some (.ref p)/\∀ H,SqT K H p [.int (formN z),.int (formK z)]
 g_MOST_PIECES:∃ t,mg "MOST_PIECES" = some (.int 40 t)
 g_MOST_DEEP:∃ t,mg "MOST_DEEP" = some (.int 6 t)
 g_MOST_SHIFT:∃ t,mg "MOST_SHIFT" = some (.int 8 t)
 g_MOST_LOW:∃ t,mg "MOST_LOW" = some (.int 7 t)
 g_TABLE_SIZES:mg "TABLE_SIZES" = some (.ref A.a_TABLE_SIZES)
 D_TABLE_SIZES:∀ H,SqT K H A.a_TABLE_SIZES [.int 2,.int 4,.int 8,.int 16]
 g_MOST_PARTS:∃ t,mg "MOST_PARTS" = some (.int 6 t)
 g_MOST_PORTS:∃ t,mg "MOST_PORTS" = some (.int 8 t)
 g_MOST_ROWS:∃ t,mg "MOST_ROWS" = some (.int 20 t)
 g_MOST_TIMES:∃ t,mg "MOST_TIMES" = some (.int 8 t)
 g_MOST_DEEP_READ:∃ t,mg "MOST_DEEP_READ" = some (.int 60 t)
 F_is_figures:Fun K "is_figures" "is_figures" w_m A.a_is_figures A.d_is_figures
 B_is_figures:Binds K A.d_is_figures ["word"] []
 M_is_figures:mg "is_figures" = some (.ref A.a_is_figures)
 F_number_of:Fun K "number_of" "number_of" v_b A.a_number_of A.d_number_of
 B_number_of:Binds K A.d_number_of ["word"] []
 M_number_of:mg "number_of" = some (.ref A.a_number_of)
 F_numbers_of:Fun K "numbers_of" "numbers_of" w_o A.a_numbers_of A.d_numbers_of
 B_numbers_of:Binds K A.d_numbers_of ["words"] []
 M_numbers_of:mg "numbers_of" = some (.ref A.a_numbers_of)
 F_words_of:Fun K "words_of" "words_of" v_z A.a_words_of A.d_words_of
 B_words_of:Binds K A.d_words_of ["numbers"] []
 M_words_of:mg "words_of" = some (.ref A.a_words_of)
 F_is_whole:Fun K "is_whole" "is_whole" v_w A.a_is_whole A.d_is_whole
 B_is_whole:Binds K A.d_is_whole ["thing"] []
 M_is_whole:mg "is_whole" = some (.ref A.a_is_whole)
 F_is_between:Fun K "is_between" "is_between" w_l A.a_is_between A.d_is_between
 B_is_between:Binds K A.d_is_between ["thing", "low", "high"] []
 M_is_between:mg "is_between" = some (.ref A.a_is_between)
 F_is_word:Fun K "is_word" "is_word" u_s A.a_is_word A.d_is_word
 B_is_word:Binds K A.d_is_word ["thing"] []
 M_is_word:mg "is_word" = some (.ref A.a_is_word)
 F_is_name:Fun K "is_name" "is_name" u_o A.a_is_name A.d_is_name
 B_is_name:Binds K A.d_is_name ["thing"] []
 M_is_name:mg "is_name" = some (.ref A.a_is_name)
 F_is_width:Fun K "is_width" "is_width" v_x A.a_is_width A.d_is_width
 B_is_width:Binds K A.d_is_width ["thing"] []
 M_is_width:mg "is_width" = some (.ref A.a_is_width)
 F_two_to:Fun K "two_to" "two_to" t_y A.a_two_to A.d_two_to
 B_two_to:Binds K A.d_two_to ["many"] []
 M_two_to:mg "two_to" = some (.ref A.a_two_to)
 F_is_number:Fun K "is_number" "is_number" w_z A.a_is_number A.d_is_number
 B_is_number:Binds K A.d_is_number ["thing", "width"] []
 M_is_number:mg "is_number" = some (.ref A.a_is_number)
 F_is_saying:Fun K "is_saying" "is_saying" v_a A.a_is_saying A.d_is_saying
 B_is_saying:Binds K A.d_is_saying ["thing"] []
 M_is_saying:mg "is_saying" = some (.ref A.a_is_saying)
 F_is_formed:Fun K "is_formed" "is_formed" w_y A.a_is_formed A.d_is_formed
 B_is_formed:Binds K A.d_is_formed ["thing"] []
 M_is_formed:mg "is_formed" = some (.ref A.a_is_formed)
 F_are_numbers:Fun K "are_numbers" "are_numbers" x_u A.a_are_numbers A.d_are_numbers
 B_are_numbers:Binds K A.d_are_numbers ["thing", "width"] []
 M_are_numbers:mg "are_numbers" = some (.ref A.a_are_numbers)
 F_sayings_in:Fun K "sayings_in" "sayings_in" w_q A.a_sayings_in A.d_sayings_in
 B_sayings_in:Binds K A.d_sayings_in ["saying"] []
 M_sayings_in:mg "sayings_in" = some (.ref A.a_sayings_in)
 F_is_plan:Fun K "is_plan" "is_plan" u_q A.a_is_plan A.d_is_plan
 B_is_plan:Binds K A.d_is_plan ["thing"] []
 M_is_plan:mg "is_plan" = some (.ref A.a_is_plan)
 F_is_part:Fun K "is_part" "is_part" u_p A.a_is_part A.d_is_part
 B_is_part:Binds K A.d_is_part ["thing"] []
 M_is_part:mg "is_part" = some (.ref A.a_is_part)
 F_is_tuple_of:Fun K "is_tuple_of" "is_tuple_of" x_v A.a_is_tuple_of A.d_is_tuple_of
 B_is_tuple_of:Binds K A.d_is_tuple_of ["thing", "many"] []
 M_is_tuple_of:mg "is_tuple_of" = some (.ref A.a_is_tuple_of)
 F_is_short:Fun K "is_short" "is_short" v_v A.a_is_short A.d_is_short
 B_is_short:Binds K A.d_is_short ["thing", "most"] []
 M_is_short:mg "is_short" = some (.ref A.a_is_short)
 F_is_port:Fun K "is_port" "is_port" u_r A.a_is_port A.d_is_port
 B_is_port:Binds K A.d_is_port ["thing"] []
 M_is_port:mg "is_port" = some (.ref A.a_is_port)
 F_is_row:Fun K "is_row" "is_row" t_w A.a_is_row A.d_is_row
 B_is_row:Binds K A.d_is_row ["thing"] []
 M_is_row:mg "is_row" = some (.ref A.a_is_row)
 F_is_use:Fun K "is_use" "is_use" t_x A.a_is_use A.d_is_use
 B_is_use:Binds K A.d_is_use ["thing"] []
 M_is_use:mg "is_use" = some (.ref A.a_is_use)
 F_rows_of:Fun K "rows_of" "rows_of" u_t A.a_rows_of A.d_rows_of
 B_rows_of:Binds K A.d_rows_of ["text"] []
 M_rows_of:mg "rows_of" = some (.ref A.a_rows_of)
 F_text_of:Fun K "text_of" "text_of" u_u A.a_text_of A.d_text_of
 B_text_of:Binds K A.d_text_of ["rows"] []
 M_text_of:mg "text_of" = some (.ref A.a_text_of)
 F_sections_of:Fun K "sections_of" "sections_of" x_x A.a_sections_of A.d_sections_of
 B_sections_of:Binds K A.d_sections_of ["rows", "words"] []
 M_sections_of:mg "sections_of" = some (.ref A.a_sections_of)
 F_words_behind:Fun K "words_behind" "words_behind" x_l A.a_words_behind A.d_words_behind
 B_words_behind:Binds K A.d_words_behind ["row", "many"] []
 M_words_behind:mg "words_behind" = some (.ref A.a_words_behind)
 F_read_plan:Fun K "read_plan" "read_plan" v_f A.a_read_plan A.d_read_plan
 B_read_plan:Binds K A.d_read_plan ["text"] []
 M_read_plan:mg "read_plan" = some (.ref A.a_read_plan)
 F_read_part:Fun K "read_part" "read_part" v_e A.a_read_part A.d_read_part
 B_read_part:Binds K A.d_read_part ["rows"] []
 M_read_part:mg "read_part" = some (.ref A.a_read_part)
 F_read_port:Fun K "read_port" "read_port" v_g A.a_read_port A.d_read_port
 B_read_port:Binds K A.d_read_port ["row"] []
 M_read_port:mg "read_port" = some (.ref A.a_read_port)
 F_read_row:Fun K "read_row" "read_row" v_y A.a_read_row A.d_read_row
 B_read_row:Binds K A.d_read_row ["row"] []
 M_read_row:mg "read_row" = some (.ref A.a_read_row)
 F_read_sayings:Fun K "read_sayings" "read_sayings" x_k A.a_read_sayings A.d_read_sayings
 B_read_sayings:Binds K A.d_read_sayings ["words"] []
 M_read_sayings:mg "read_sayings" = some (.ref A.a_read_sayings)
 F_read_saying:Fun K "read_saying" "read_saying" x_w A.a_read_saying A.d_read_saying
 B_read_saying:Binds K A.d_read_saying ["words", "place", "deep"] []
 M_read_saying:mg "read_saying" = some (.ref A.a_read_saying)
 F_read_leaf:Fun K "read_leaf" "read_leaf" v_d A.a_read_leaf A.d_read_leaf
 B_read_leaf:Binds K A.d_read_leaf ["word"] []
 M_read_leaf:mg "read_leaf" = some (.ref A.a_read_leaf)
 F_read_front:Fun K "read_front" "read_front" w_p A.a_read_front A.d_read_front
 B_read_front:Binds K A.d_read_front ["words", "place"] []
 M_read_front:mg "read_front" = some (.ref A.a_read_front)
 F_numbers_at:Fun K "numbers_at" "numbers_at" w_n A.a_numbers_at A.d_numbers_at
 B_numbers_at:Binds K A.d_numbers_at ["words", "start", "behind"] []
 M_numbers_at:mg "numbers_at" = some (.ref A.a_numbers_at)
 F_plan_text:Fun K "plan_text" "plan_text" v_c A.a_plan_text A.d_plan_text
 B_plan_text:Binds K A.d_plan_text ["plan"] []
 M_plan_text:mg "plan_text" = some (.ref A.a_plan_text)
 F_words_of_row:Fun K "words_of_row" "words_of_row" x_m A.a_words_of_row A.d_words_of_row
 B_words_of_row:Binds K A.d_words_of_row ["row"] []
 M_words_of_row:mg "words_of_row" = some (.ref A.a_words_of_row)
 F_words_of_saying:Fun K "words_of_saying" "words_of_saying" x_b A.a_words_of_saying A.d_words_of_saying
 B_words_of_saying:Binds K A.d_words_of_saying ["saying"] []
 M_words_of_saying:mg "words_of_saying" = some (.ref A.a_words_of_saying)
 F_L_bag:Fun K "_law_bag" "_law_bag" r_l A.a_L_bag A.d_L_bag
 B_L_bag:Binds K A.d_L_bag ["_law_script", "_law_at"] []
 M_L_bag:mg "_law_bag" = some (.ref A.a_L_bag)
 F_L_take:Fun K "_law_take" "_law_take" t_u A.a_L_take A.d_L_take
 B_L_take:Binds K A.d_L_take ["_law_bag_here", "_law_many"] []
 M_L_take:mg "_law_take" = some (.ref A.a_L_take)
 F_L_name:Fun K "_law_name" "_law_name" t_q A.a_L_name A.d_L_name
 B_L_name:Binds K A.d_L_name ["_law_bag_here"] []
 M_L_name:mg "_law_name" = some (.ref A.a_L_name)
 F_L_rooms:Fun K "_law_rooms" "_law_rooms" u_n A.a_L_rooms A.d_L_rooms
 B_L_rooms:Binds K A.d_L_rooms ["_law_bag_here", "_law_room", "_law_many"] []
 M_L_rooms:mg "_law_rooms" = some (.ref A.a_L_rooms)
 F_L_any:Fun K "_law_any" "_law_any" r_k A.a_L_any A.d_L_any
 B_L_any:Binds K A.d_L_any ["_law_bag_here", "_law_names", "_law_deep", "_law_room"] []
 M_L_any:mg "_law_any" = some (.ref A.a_L_any)
 F_L_row:Fun K "_law_row" "_law_row" r_m A.a_L_row A.d_L_row
 B_L_row:Binds K A.d_L_row ["_law_bag_here", "_law_names", "_law_room"] []
 M_L_row:mg "_law_row" = some (.ref A.a_L_row)
 F_L_plan:Fun K "_law_plan" "_law_plan" t_r A.a_L_plan A.d_L_plan
 B_L_plan:Binds K A.d_L_plan ["_law_bag_here"] []
 M_L_plan:mg "_law_plan" = some (.ref A.a_L_plan)
 F_L_said:Fun K "_law_said" "_law_said" t_s A.a_L_said A.d_L_said
 B_L_said:Binds K A.d_L_said ["_law_saying"] []
 M_L_said:mg "_law_said" = some (.ref A.a_L_said)
 F_L_row_text:Fun K "_law_row_text" "_law_row_text" w_k A.a_L_row_text A.d_L_row_text
 B_L_row_text:Binds K A.d_L_row_text ["_law_row_here"] []
 M_L_row_text:mg "_law_row_text" = some (.ref A.a_L_row_text)
 F_L_text:Fun K "_law_text" "_law_text" t_v A.a_L_text A.d_L_text
 B_L_text:Binds K A.d_L_text ["_law_plan_here"] []
 M_L_text:mg "_law_text" = some (.ref A.a_L_text)
 F_L_same:Fun K "_law_same" "_law_same" t_t A.a_L_same A.d_L_same
 B_L_same:Binds K A.d_L_same ["_law_found", "_law_due"] []
 M_L_same:mg "_law_same" = some (.ref A.a_L_same)
 F_law:Fun K "law" "law" i_l A.a_law A.d_law
 B_law:Binds K A.d_law ["_law_script"] []
 M_law:mg "law" = some (.ref A.a_law)
section
variable {P:Program} {w:World} {K:PySem.W.Frag} {mg:Str->Option Value} {base:Heap} {A:Ad}
seal L2.PE L2.PA L2.PT L2.PS L2.PSs
theorem q_s(T:Tx w K mg A):FnOk P w K mg base CX0 1 A.a_is_figures A.d_is_figures ["word"] s_a:=by
 refine T.F_is_figures.ok p_b (fun vs H Q E h=>?_) (fun cdv A' outer s H vs Q E hr h=>?_)
 ·obtain ⟨n,rfl,hn,q⟩:=h
  rfl
 obtain ⟨n,rfl,hn,q⟩:=h
 obtain ⟨t_MOST_FIGURES,g_MOST_FIGURES⟩:=T.g_MOST_FIGURES
 refine ⟨_,(z_d (y_d (PW.pt (v_i (x_a (m_r q_a q_a z_f (z_i z_w rfl T.len PySem.boot_len (z_a (pv 0) z_b)) (y_y (v:=.int 9) rfl g_MOST_FIGURES ⟨_,rfl⟩))) (w_j (x_a (y_c (z_i w_w rfl T.all PyProof.Rows.boot_all (z_a (y_o [] (fun _ _ h=>h) rfl (pi_str (pv 0)) (fun _ _ _ _=>y_m) (fun _ _ _ _=>(s_q t_n t_n z_k (pv 0) z_k)) rfl (show ∀ j∈([]:List Nat),j<1 by decide) (show (["sign"]:List Str).Nodup by decide +kernel)) z_b)) (fun _=>rfl)))))) (z_g (z_l v_p)) z_q)
  (z_g (z_l (pe_or (x_q y_q (pv 0) z_k (nomark _)) (x_r (x_q n_j (z_j ix_str (pv 0) z_f (fun _ _=>rfl)) z_k (nomark _))))))),?_⟩
 have h1:=nw_pos n
 have h9:=w_i hn
 refine ⟨_,rfl,_,_,rfl,⟨small (by lia),rfl⟩,_,_,rfl,rfl,_,rfl,?_⟩
 refine y_b (decide_eq_true (by lia)) ⟨_,_,rfl,rfl,_,rfl,?_⟩
 refine z_s (by rw [decide_eq_true (by lia)];rfl) ?_
 refine ⟨_,rfl,_,rfl,n_w (fun i ys H'=>ys=(List.replicate i true).map V.bl/\H=H') ⟨rfl,rfl⟩ ?_ ?_ ?_⟩
 ·rintro i ys H' hi ⟨rfl,_⟩
  rw [List.length_map,List.length_replicate]
  have hi':i<(nw n).length:=hi
  exact y_j (by lia)
 ·rintro i c ys H' hc ⟨rfl,rfl⟩
  have hd:=t_l (n:=n) (c:=c) (by obtain ⟨hi,e⟩:=Array.getElem?_eq_some_iff.mp hc;rw [<-e];exact Array.getElem_mem_toList hi)
  refine ⟨_,rfl,_,_,rfl,rfl,_,rfl,y_b ?_ ⟨_,_,rfl,rfl,?_,rfl⟩⟩
  ·rw [e48]
   show (!decide ([c]<[48]))=true
   rw [dig_lo hd.1]
   rfl
  ·rw [e57]
   show _++[V.bl (!decide ([57]<[c]))]=_
   rw [dig_hi hd.2,List.replicate_succ',List.map_append]
   rfl
 ·rintro ys H' ⟨rfl,rfl⟩ p hp
  refine ⟨rfl,p,_,rfl,SqL.of z_c,_,rfl,?_⟩
  refine z_s (by rw [all_true];rfl) ⟨_,rfl,rfl,_,rfl,?_⟩
  have s1:=z_e hp (.lst ((List.replicate (nw n).cps.size true).map V.bl))
  by_cases h0:n=0
  ·subst h0
   refine y_b (decide_eq_true (congrArg V.str j_u)) ?_
   rw [j_u]
   exact q _ s1
  ·obtain ⟨c,r,e,hc⟩:=nw_head (n:=n) (by lia)
   have hne:decide (V.str (nw n)=V.str "0")=false:=decide_eq_false fun z=>by
    injection z with z
    rw [z] at e
    have e':[48]=c::r:=e48.symm.trans e
    injection e' with e'
    exact hc e'.symm
   refine z_s hne ⟨_,rfl,_,_,c,rfl,rfl,small (by lia),(by rw [e];exact k_o),rfl,?_⟩
   have hv:(!decide (V.str ⟨#[c]⟩=V.str "0"))=true:=by
    rw [decide_eq_false]
    ·rfl
    ·intro z
     injection z with z
     have:=congrArg (fun s:Str=>s.cps.toList) z
     rw [e48] at this
     injection this with this
     exact hc this
   rw [hv]
   exact q _ s1
theorem p_z(T:Tx w K mg A)(G_is_figures:FnOk P w K mg base CX0 1 A.a_is_figures A.d_is_figures ["word"] s_a):FnOk P w K mg base CX0 2 A.a_number_of A.d_number_of ["word"] w_s:=by
 refine T.F_number_of.ok o_l (fun vs H Q E h=>?_) (fun cdv A' outer s H vs Q E hr h=>?_)
 ·obtain ⟨n,rfl,hn,q⟩:=h
  rfl
 obtain ⟨n,rfl,hn,q⟩:=h
 refine ⟨_,(z_d (y_d (x_a (y_c (z_h G_is_figures (hr.mono (by first | decide | lia)) rfl T.M_is_figures T.F_is_figures.kp T.B_is_figures .nil pass0 (z_a (pv 0) z_b)) (fun _=>rfl))) (z_g x_t) z_q)
  (z_g (z_l (z_y k_s rfl T.int PyProof.Rows.boot_int (z_a (pv 0) z_b))))),?_⟩
 refine ⟨_,rfl,n,rfl,hn,fun H' s=>⟨_,rfl,?_⟩⟩
 exact z_s rfl ⟨_,rfl,_,_,rfl,nw_reads hn,by have:=w_i hn;lia,q _ s⟩
theorem q_u(T:Tx w K mg A)(G_number_of:FnOk P w K mg base CX0 2 A.a_number_of A.d_number_of ["word"] w_s):FnOk P w K mg base CX0 3 A.a_numbers_of A.d_numbers_of ["words"] s_b:=by
 refine T.F_numbers_of.ok p_d (fun vs H Q E h=>?_) (fun cdv A' outer s H vs Q E hr h=>?_)
 ·obtain ⟨l,ns,rfl,hl,hn,hz,q⟩:=h
  rfl
 obtain ⟨l,ns,rfl,hl,hn,hz,q⟩:=h
 refine ⟨_,(z_g (z_l (z_y y_h rfl T.tuple PyProof.Rows.boot_tuple (z_a (y_o [] (fun _ _ h=>h) rfl (x_s (pv 0)) (fun _ _ _ _=>y_m) (fun _ _ _ _=>(z_h G_number_of (hr.mono (by first | decide | lia)) rfl T.M_number_of T.F_number_of.kp T.B_number_of .nil pass0 (z_a (pv 0) z_b))) rfl (show ∀ j∈([]:List Nat),j<1 by decide) (show (["word"]:List Str).Nodup by decide +kernel)) z_b)))),?_⟩
 refine ⟨_,rfl,l,rfl,⟨_,SqL.of hl⟩,w_h (xs:=sV (ns.map nw)) (fun i ys H'=>ys=nV (ns.take i)/\Same H H') ⟨rfl,Same.refl _⟩ ?_ ?_ ?_ ?_⟩
 ·rintro i ys H' _ ⟨_,s⟩
  exact SqL.of (s _ _ hl)
 ·rintro i ys H' _ ⟨rfl,_⟩
  rw [u_m,List.length_take]
  exact y_j (by lia)
 ·rintro i x ys H' hx ⟨rfl,s⟩
  obtain ⟨n,hi,rfl⟩:∃ n,ns[i]? = some n/\V.str (nw n)=x:=by
   unfold sV at hx
   rw [List.map_map,List.getElem?_map] at hx
   exact Option.map_eq_some_iff.mp hx
  refine ⟨_,rfl,n,rfl,hn n (List.mem_of_getElem? hi),fun H2 s2=>⟨?_,s.trans s2⟩⟩
  rw [List.take_add_one,hi]
  unfold nV
  rw [List.map_append]
  rfl
 ·rintro ys H' ⟨rfl,s⟩ y hy
  rw [z_z,List.length_map,List.take_length]
  refine ⟨y,_,rfl,.inl ⟨SqL.of z_c,fun p hp=>?_⟩⟩
  have s2:=s.trans (z_e hy (.lst (nV ns)))
  exact q p _ (s2.free hp) (s2.trans (z_e hp _)) z_c
theorem n_i(T:Tx w K mg A):FnOk P w K mg base CX0 1 A.a_words_of A.d_words_of ["numbers"] u_g:=by
 refine T.F_words_of.ok n_o (fun vs H Q E h=>?_) (fun cdv A' outer s H vs Q E hr h=>?_)
 ·obtain ⟨l,ns,rfl,hl,hn,hz,q⟩:=h
  rfl
 obtain ⟨l,ns,rfl,hl,hn,hz,q⟩:=h
 refine ⟨_,(z_g (z_l (y_o [] (fun _ _ h=>h) rfl (w_b (pv 0)) (fun _ _ _ _=>y_m) (fun _ _ _ _=>(z_y y_t rfl T.str PyProof.Rows.boot_str (z_a (pv 0) z_b))) rfl (show ∀ j∈([]:List Nat),j<1 by decide) (show (["number"]:List Str).Nodup by decide +kernel)))),?_⟩
 refine ⟨_,rfl,l,rfl,⟨_,SqT.of hl⟩,s_j (xs:=nV ns) (fun v=>match v with | .int i=>.str (Str.ofString (toString i)) | v=>v) (SqT.of hl) (by rw [u_m];lia) (fun x hx N hN=>?_) ?_⟩
 ·obtain ⟨v,hv,rfl⟩:=List.mem_map.mp hx
  refine ⟨_,rfl,_,rfl,?_,hN⟩
  have:=hn v hv
  exact s_g (k:=1920) (Nat.lt_of_lt_of_le this (by decide)) (by decide)
 ·intro p hp
  have e:(nV ns).map (fun v=>match v with | .int i=>V.str (Str.ofString (toString i)) | v=>v)=sV (ns.map nw):=by
   unfold nV sV
   rw [List.map_map,List.map_map]
   rfl
  rw [e]
  exact q p hp
theorem n_f(T:Tx w K mg A):FnOk P w K mg base CX0 1 A.a_is_whole A.d_is_whole ["thing"] l_j:=by
 refine T.F_is_whole.ok n_m (fun vs H Q E h=>?_) (fun cdv A' outer s H vs Q E hr h=>?_)
 ·obtain ⟨d,v,rfl,hD,q⟩:=h
  rfl
 obtain ⟨d,v,rfl,hD,q⟩:=h
 refine ⟨_,(z_g (z_l (x_h (z_i (z_x (T := "int")) rfl T.isinstance PyProof.Rows.boot_isinstance (z_a (pv 0) (z_a (y_r (v:=.ty "int") rfl T.int PyProof.Rows.boot_int rfl) z_b))) (x_r (pe_not (z_i (z_x (T := "bool")) rfl T.isinstance PyProof.Rows.boot_isinstance (z_a (pv 0) (z_a (y_r (v:=.ty "bool") rfl T.bool PyProof.Rows.boot_bool rfl) z_b)))))))),?_⟩
 obtain ⟨t,ty,k1,k2,_⟩:=hD.ty (K:=K)
 rw [<-h_c] at q
 refine ⟨_,rfl,v,t,_,rfl,ty,k1,_,rfl,?_⟩
 cases hI:dInt d with
 | true =>
  rw [hI] at q
  exact iteT ⟨_,rfl,v,t,_,rfl,ty,k2,_,rfl,q⟩
 | false =>
  rw [hI] at q
  exact iteF q
theorem q_r(T:Tx w K mg A)(G_is_whole:FnOk P w K mg base CX0 1 A.a_is_whole A.d_is_whole ["thing"] l_j):FnOk P w K mg base CX0 2 A.a_is_between A.d_is_between ["thing", "low", "high"] u_a:=by
 refine T.F_is_between.ok p_a (fun vs H Q E h=>?_) (fun cdv A' outer s H vs Q E hr h=>?_)
 ·obtain ⟨d,v,lo,hi,rfl,hD,q⟩:=h
  rfl
 obtain ⟨d,v,lo,hi,rfl,hD,q⟩:=h
 refine ⟨_,(z_g (z_l (x_h (z_h G_is_whole (hr.mono (by first | decide | lia)) rfl T.M_is_whole T.F_is_whole.kp T.B_is_whole .nil pass0 (z_a (pv 0) z_b)) (x_r (s_q q_a q_a (pv 1) (pv 0) (pv 2)))))),?_⟩
 refine ⟨_,rfl,d,v,rfl,hD,_,rfl,?_⟩
 cases d with
 | int i =>
  have e:=hD.intI
  subst e
  refine iteT ⟨_,rfl,_,rfl,_,_,rfl,rfl,_,rfl,?_⟩
  have q:Q (.bl (decide (lo<=i)&&decide (i<=hi))) H:=q
  by_cases h:lo<=i
  ·rw [decide_eq_true h,Bool.true_and] at q
   exact y_b (decide_eq_true h) ⟨_,rfl,_,_,rfl,rfl,q⟩
  ·rw [decide_eq_false h,Bool.false_and] at q
   exact z_s (decide_eq_false h) q
 | _=>exact iteF q
theorem k_c(T:Tx w K mg A):FnOk P w K mg base CX0 1 A.a_is_word A.d_is_word ["thing"] u_c:=by
 refine T.F_is_word.ok k_j (fun vs H Q E h=>?_) (fun cdv A' outer s H vs Q E hr h=>?_)
 ·obtain ⟨d,v,rfl,hD,q⟩:=h
  rfl
 obtain ⟨d,v,rfl,hD,q⟩:=h
 obtain ⟨kvs,D_FORMS,hkeys,hkvs⟩:=T.D_FORMS
 refine ⟨_,(z_g (z_l (x_h (z_i (z_x (T := "str")) rfl T.isinstance PyProof.Rows.boot_isinstance (z_a (pv 0) (z_a (y_r (v:=.ty "str") rfl T.str PyProof.Rows.boot_str rfl) z_b))) (x_r (x_q (i_e D_FORMS) (pv 0) (y_y (v:=.ref A.a_FORMS) rfl T.g_FORMS rfl) rfl))))),?_⟩
 obtain ⟨t,ty,_,_,k3,_⟩:=hD.ty (K:=K)
 refine ⟨_,rfl,v,t,_,rfl,ty,k3,_,rfl,?_⟩
 cases d with
 | str z =>
  have ev:v = .str z:=by unfold Dat at hD;exact hD
  subst ev
  refine iteT ⟨_,rfl,z,rfl,rfl,?_⟩
  rw [l_t,hkeys]
  exact q
 | _=>exact iteF q
theorem l_y(T:Tx w K mg A)(G_is_word:FnOk P w K mg base CX0 1 A.a_is_word A.d_is_word ["thing"] u_c):FnOk P w K mg base CX0 2 A.a_is_name A.d_is_name ["thing"] u_b:=by
 refine T.F_is_name.ok k_g (fun vs H Q E h=>?_) (fun cdv A' outer s H vs Q E hr h=>?_)
 ·obtain ⟨d,v,rfl,hD,hsz,q⟩:=h
  rfl
 obtain ⟨d,v,rfl,hD,hsz,q⟩:=h
 obtain ⟨t_MOST_LETTERS,g_MOST_LETTERS⟩:=T.g_MOST_LETTERS
 refine ⟨_,(z_d (y_d (PW.pt (v_i (x_a (y_c (z_i (z_x (T := "str")) rfl T.isinstance PyProof.Rows.boot_isinstance (z_a (pv 0) (z_a (y_r (v:=.ty "str") rfl T.str PyProof.Rows.boot_str rfl) z_b))) (fun _=>rfl))) (w_j (y_c (z_h G_is_word (hr.mono (by first | decide | lia)) rfl T.M_is_word T.F_is_word.kp T.B_is_word .nil pass0 (z_a (pv 0) z_b)) (fun _=>rfl))))) (z_g (z_l v_p)) z_q)
  (z_g (z_l (x_h (s_q q_a q_a z_f (z_i z_w rfl T.len PySem.boot_len (z_a (pv 0) z_b)) (y_y (v:=.int 8) rfl g_MOST_LETTERS ⟨_,rfl⟩)) (x_r (z_i w_w rfl T.all PyProof.Rows.boot_all (z_a (y_o [] (fun _ _ h=>h) rfl (pi_str (pv 0)) (fun _ _ _ _=>y_m) (fun _ _ _ _=>(s_q t_n t_n z_k (pv 0) z_k)) rfl (show ∀ j∈([]:List Nat),j<1 by decide) (show (["sign"]:List Str).Nodup by decide +kernel)) z_b))))))),?_⟩
 obtain ⟨t,ty,_,_,k3,_⟩:=hD.ty (K:=K)
 refine ⟨_,rfl,v,t,_,rfl,ty,k3,_,rfl,?_⟩
 cases d with
 | str z =>
  have ev:v = .str z:=by unfold Dat at hD;exact hD
  subst ev
  refine iteF ⟨_,rfl,.str z,_,rfl,Dat.str z,_,rfl,?_⟩
  have hz:z.length<=100:=szD_str hsz
  by_cases hw:z∈words
  ·refine y_b (decide_eq_true hw) ?_
   have e:nameD (.str z)=false:=by simp [nameD,hw]
   rw [e] at q
   exact q H (Same.refl H)
  ·refine z_s (decide_eq_false hw) ?_
   refine ⟨_,rfl,_,_,rfl,⟨small (by lia),rfl⟩,_,_,rfl,rfl,_,rfl,?_⟩
   refine ite2 (fun c=>?_) (fun c=>?_)
   ·have c1:1<=z.length:=by have:=of_decide_eq_true c;lia
    refine ⟨_,_,rfl,rfl,_,rfl,?_⟩
    refine ite2 (fun c=>?_) (fun c=>?_)
    ·have c2:z.length<=8:=by have:=of_decide_eq_true c;lia
     refine ⟨_,rfl,z,rfl,n_w (fun i ys H'=>ys=((z.cps.toList.take i).map fun c=>V.bl (letterB c))/\H'=H) ⟨by simp,rfl⟩ ?_ ?_ ?_⟩
     ·rintro i ys H' hi ⟨rfl,rfl⟩
      refine y_j ?_
      have hz':z.cps.size=z.length:=rfl
      simp only [List.length_map,List.length_take]
      lia
     ·rintro i c ys H' hc ⟨rfl,rfl⟩
      unfold tYes
      refine iteT ⟨_,rfl,_,_,rfl,rfl,_,rfl,?_⟩
      have htake:z.cps.toList.take (i+1)=z.cps.toList.take i++[c]:=by
       have hi:z.cps.toList[i]? = some c:=by rw [Array.getElem?_toList];exact hc
       obtain ⟨hlt,he⟩:=List.getElem?_eq_some_iff.mp hi
       rw [List.take_succ_eq_append_getElem hlt,he]
      have e1:(!decide ((⟨#[c]⟩:Str).cps.toList<("a" : Str).cps.toList))=decide (97<=c):=by
       have:decide ((⟨#[c]⟩:Str).cps.toList<("a" : Str).cps.toList)=decide (c<97):=lt_one c 97
       rw [this]
       by_cases h:97<=c
       ·simp [h]
       ·simp [h];lia
      rw [e1]
      refine ite2 (fun h1=>?_) (fun h1=>?_)
      ·have h97:97<=c:=of_decide_eq_true h1
       refine ⟨_,_,rfl,rfl,?_⟩
       have e2:(!decide (("z" : Str).cps.toList<(⟨#[c]⟩:Str).cps.toList))=letterB c:=by
        have:decide (("z" : Str).cps.toList<(⟨#[c]⟩:Str).cps.toList)=decide (122<c):=lt_one 122 c
        rw [this]
        unfold letterB
        rw [decide_eq_true h97,Bool.true_and]
        by_cases h:c<=122
        ·simp [h]
        ·simp [h];lia
       rw [e2]
       exact ⟨by rw [htake,List.map_append];rfl,rfl⟩
      ·have h97:¬97<=c:=of_decide_eq_false (Bool.eq_false_iff.mpr h1)
       have e2:letterB c=false:=by simp [letterB,h97]
       exact ⟨by rw [htake,List.map_append,List.map_singleton,e2],rfl⟩
     ·rintro ys H' ⟨rfl,rfl⟩ p hp
      refine ⟨rfl,p,z.cps.toList.map letterB,rfl,SqL.of ?_,?_⟩
      ·rw [z_c,List.map_map]
       have:z.cps.toList.take z.cps.size=z.cps.toList:=List.take_of_length_le (by simp)
       rw [this]
       rfl
      ·have e:nameD (.str z)=(z.cps.toList.map letterB).all id:=by
        rw [List.all_map]
        simp [nameD,hw,c1,c2]
       rw [<-e]
       exact q _ (z_e hp _)
    ·have c2:¬z.length<=8:=by have:=of_decide_eq_false (Bool.eq_false_iff.mpr c);lia
     have e:nameD (.str z)=false:=by simp [nameD,c2]
     rw [e] at q
     exact q H (Same.refl H)
   ·have c1:¬1<=z.length:=by have:=of_decide_eq_false (Bool.eq_false_iff.mpr c);lia
    refine ⟨_,rfl,iteF ?_⟩
    have e:nameD (.str z)=false:=by simp [nameD,c1]
    rw [e] at q
    exact q H (Same.refl H)
 | _=>exact iteT (iteT (q H (Same.refl H)))
theorem n_g(T:Tx w K mg A)(G_is_between:FnOk P w K mg base CX0 2 A.a_is_between A.d_is_between ["thing", "low", "high"] u_a):FnOk P w K mg base CX0 3 A.a_is_width A.d_is_width ["thing"] u_f:=by
 refine T.F_is_width.ok n_n (fun vs H Q E h=>?_) (fun cdv A' outer s H vs Q E hr h=>?_)
 ·obtain ⟨d,v,rfl,hD,q⟩:=h
  rfl
 obtain ⟨d,v,rfl,hD,q⟩:=h
 obtain ⟨t_MOST_WIDTH,g_MOST_WIDTH⟩:=T.g_MOST_WIDTH
 refine ⟨_,(z_g (z_l (z_h G_is_between (hr.mono (by first | decide | lia)) rfl T.M_is_between T.F_is_between.kp T.B_is_between .nil pass0 (z_a (pv 0) (z_a z_f (z_a (y_y (v:=.int 8) rfl g_MOST_WIDTH ⟨_,rfl⟩) z_b)))))),?_⟩
 exact ⟨_,rfl,d,v,1,8,rfl,hD,q⟩
theorem i_d(T:Tx w K mg A):FnOk P w K mg base CX0 1 A.a_two_to A.d_two_to ["many"] o_q:=by
 refine T.F_two_to.ok sc_two_to (fun vs H Q E h=>?_) (fun cdv A' outer s H vs Q E hr h=>?_)
 ·obtain ⟨m,rfl,m0,m1,q⟩:=h
  rfl
 obtain ⟨m,rfl,m0,m1,q⟩:=h
 refine ⟨_,(z_d (z_p (i:=1) sc_two_to.nd rfl (Or.inl rfl) z_f)
  (z_d (x_j PassesOwn.never rfl (y_x rfl T.range (z_a (pv 0) z_b)) (y_g (i:=2) sc_two_to.nd rfl (Or.inl rfl))
    (z_g (z_p (i:=1) sc_two_to.nd rfl (Or.inl rfl) (z_u s_l (pv 1) z_f))))
  (z_g (z_l (pv 1))))),?_⟩
 obtain ⟨m,rfl⟩:=Int.eq_ofNat_of_zero_le m0
 refine ⟨_,rfl,_,rfl,by lia,by lia,x_i (lo:=0) (fun i σ H'=>∃ x,σ=[some (.int m),some (.int (2^i)),x]/\H=H') ⟨_,rfl,rfl⟩ ?_ ?_⟩
 ·rintro i σ H' hi ⟨x,rfl,rfl⟩
  refine ⟨_,rfl,_,_,rfl,rfl,.inr ⟨by decide,by decide⟩,?_⟩
  exact ⟨some (.int (0+(i:Int))),(show [some (V.int m),some (.int ((2:Int)^i*2)),some (.int (0+(i:Int)))]=_ by rw [<-Int.pow_succ]),rfl⟩
 ·rintro σ H' ⟨x,rfl,rfl⟩
  exact ⟨_,rfl,q⟩
theorem p_x(T:Tx w K mg A)(G_is_width:FnOk P w K mg base CX0 3 A.a_is_width A.d_is_width ["thing"] u_f)(G_is_between:FnOk P w K mg base CX0 2 A.a_is_between A.d_is_between ["thing", "low", "high"] u_a)(G_two_to:FnOk P w K mg base CX0 1 A.a_two_to A.d_two_to ["many"] o_q):FnOk P w K mg base CX0 4 A.a_is_number A.d_is_number ["thing", "width"] v_k:=by
 refine T.F_is_number.ok o_k (fun vs H Q E h=>?_) (fun cdv A' outer s H vs Q E hr h=>?_)
 ·obtain ⟨d,v,e,u,rfl,hD,hE,q⟩:=h
  rfl
 obtain ⟨d,v,e,u,rfl,hD,hE,q⟩:=h
 refine ⟨_,(z_g (z_l (x_h (z_h G_is_width (hr.mono (by first | decide | lia)) rfl T.M_is_width T.F_is_width.kp T.B_is_width .nil pass0 (z_a (pv 1) z_b)) (x_r (z_h G_is_between (hr.mono (by first | decide | lia)) rfl T.M_is_between T.F_is_between.kp T.B_is_between .nil pass0 (z_a (pv 0) (z_a z_f (z_a (z_u r_f (z_h G_two_to (hr.mono (by first | decide | lia)) rfl T.M_two_to T.F_two_to.kp T.B_two_to .nil pass0 (z_a (pv 1) z_b)) z_f) z_b)))))))),?_⟩
 refine ⟨_,rfl,e,u,rfl,hE,_,rfl,?_⟩
 cases hw:widD e with
 | false =>
  have e1:numD d e=false:=by unfold numD;split<;>simp_all
  rw [e1] at q
  exact iteF q
 | true =>
  obtain ⟨k,rfl,k1,k8⟩:=betD_int hw
  have eu:=hE.intI
  subst eu
  refine iteT ⟨_,rfl,_,rfl,k,rfl,by lia,by lia,_,_,rfl,rfl,d,v,0,_,rfl,hD,?_⟩
  have e1:numD d (.int k)=betD d 0 (2^k.toNat-1):=by simp only [numD,hw,Bool.true_and]
  rw [e1] at q
  exact q
theorem r_w(T:Tx w K mg A)(G_is_number:FnOk P w K mg base CX0 4 A.a_is_number A.d_is_number ["thing", "width"] v_k):FnOk P w K mg base CX0 5 A.a_are_numbers A.d_are_numbers ["thing", "width"] t_d:=by
 refine T.F_are_numbers.ok q_b (fun vs H Q E h=>?_) (fun cdv A' outer s H vs Q E hr h=>?_)
 ·obtain ⟨d,v,e,u,rfl,hD,hE,q⟩:=h
  rfl
 obtain ⟨d,v,e,u,rfl,hD,hE,q⟩:=h
 refine ⟨_,(z_d (y_d (PW.pt (v_i (x_a (y_c (z_i (z_x (T := "tuple")) rfl T.isinstance PyProof.Rows.boot_isinstance (z_a (pv 0) (z_a (y_r (v:=.ty "tuple") rfl T.tuple PyProof.Rows.boot_tuple rfl) z_b))) (fun _=>rfl))) (w_j (z_o s_m (z_i z_w rfl T.len PySem.boot_len (z_a (pv 0) z_b)) (y_y (v:=.ref A.a_TABLE_SIZES) rfl T.g_TABLE_SIZES rfl) rfl)))) (z_g (z_l v_p)) z_q)
  (z_g (z_l (z_i w_w rfl T.all PyProof.Rows.boot_all (z_a (y_o [1] (fun _ _ h=>h) rfl (w_b (pv 0)) (fun _ _ _ _=>y_m) (fun _ _ _ _=>(z_h G_is_number (hr.mono (by first | decide | lia)) rfl T.M_is_number T.F_is_number.kp T.B_is_number .nil pass0 (z_a (pv 0) (z_a (pv 1) z_b)))) rfl (show ∀ j∈([1]:List Nat),j<2 by decide) (show (["number", "width"]:List Str).Nodup by decide +kernel)) z_b))))),?_⟩
 obtain ⟨t,ty,_,_,_,kT,_⟩:=hD.ty (K:=K)
 refine ⟨_,rfl,v,t,_,rfl,ty,kT,_,rfl,?_⟩
 cases d with
 | tuple ds =>
  obtain ⟨p,xs,rfl,hp,hxs⟩:=hD.tupI
  have hl:=hxs.length
  refine z_s rfl ⟨_,rfl,_,_,rfl,.inr ⟨_,SqT.of hp,rfl⟩,A.a_TABLE_SIZES,_,rfl,.inr (T.D_TABLE_SIZES H),rfl,rfl,_,rfl,?_⟩
  have hin:inV (V.int (xs.length:Nat)) [.int 2,.int 4,.int 8,.int 16]=(decide (ds.length=2) || decide (ds.length=4) || decide (ds.length=8) || decide (ds.length=16)):=by
   rw [<-hl]
   simp only [inV,eqV,List.any_cons,List.any_nil,Bool.or_false]
   have e:∀ k:Nat,(((k:Nat):Int) == ((ds.length:Nat):Int))=decide (ds.length=k):=fun k=>by
    by_cases h:ds.length=k
    ·rw [decide_eq_true h,h];simp
    ·rw [decide_eq_false h];simp;lia
   have e2:((2:Int) == ((ds.length:Nat):Int))=decide (ds.length=2):=e 2
   have e4:((4:Int) == ((ds.length:Nat):Int))=decide (ds.length=4):=e 4
   have e8:((8:Int) == ((ds.length:Nat):Int))=decide (ds.length=8):=e 8
   have e16:((16:Int) == ((ds.length:Nat):Int))=decide (ds.length=16):=e 16
   rw [e2,e4,e8,e16]
   simp only [Bool.or_assoc]
  cases hsz:(decide (ds.length=2) || decide (ds.length=4) || decide (ds.length=8) || decide (ds.length=16)) with
  | false =>
   have e1:numsD (.tuple ds) e=false:=by simp only [numsD,hsz,Bool.false_and]
   rw [e1] at q
   refine y_b ?_ (q H (Same.refl H))
   show (!inV (V.int (xs.length:Nat)) [.int 2,.int 4,.int 8,.int 16])=true
   rw [hin,hsz]
   rfl
  | true =>
   have hl16:ds.length<=16:=by simp at hsz;lia
   have e1:numsD (.tuple ds) e=ds.all fun x=>numD x e:=by simp only [numsD,hsz,Bool.true_and]
   rw [e1] at q
   refine z_s ?_ ?_
   ·show (!inV (V.int (xs.length:Nat)) [.int 2,.int 4,.int 8,.int 16])=false
    rw [hin,hsz]
    rfl
   refine ⟨_,rfl,p,rfl,⟨_,SqT.of hp⟩,k_v (fun d=>.bl (numD d e)) hp hxs (by lia) (fun d x hd' hx N hN=>⟨_,rfl,_,rfl,d,x,e,u,rfl,hx,hE,hN⟩) fun pl hpl=>?_⟩
   refine ⟨rfl,pl,ds.map (fun d=>numD d e),rfl,SqL.of (by rw [z_c,List.map_map];rfl),?_⟩
   have e2:(ds.map fun d=>numD d e).all id=ds.all fun x=>numD x e:=by rw [List.all_map];rfl
   rw [e2]
   exact q _ (z_e hpl _)
 | _=>exact y_b rfl (iteT (q H (Same.refl H)))
theorem p_w(T:Tx w K mg A)(G_is_name:FnOk P w K mg base CX0 2 A.a_is_name A.d_is_name ["thing"] u_b)(G_is_number:FnOk P w K mg base CX0 4 A.a_is_number A.d_is_number ["thing", "width"] v_k)(G_is_between:FnOk P w K mg base CX0 2 A.a_is_between A.d_is_between ["thing", "low", "high"] u_a)(G_are_numbers:FnOk P w K mg base CX0 5 A.a_are_numbers A.d_are_numbers ["thing", "width"] t_d)(G_is_word:FnOk P w K mg base CX0 1 A.a_is_word A.d_is_word ["thing"] u_c)(G_is_width:FnOk P w K mg base CX0 3 A.a_is_width A.d_is_width ["thing"] u_f):FnOk P w K mg base CX0 6 A.a_is_formed A.d_is_formed ["thing"] o_n:=by
 refine T.F_is_formed.ok sc_is_formed (fun vs H Q E h=>?_) (fun cdv A' outer s H vs Q E hr h=>?_)
 ·obtain ⟨d,v,rfl,hD,hsz,q⟩:=h
  rfl
 obtain ⟨d,v,rfl,hD,hsz,q⟩:=h
 obtain ⟨kvs,D_FORMS,hkeys,hkvs⟩:=T.D_FORMS
 obtain ⟨t_MOST_SHIFT,g_MOST_SHIFT⟩:=T.g_MOST_SHIFT
 obtain ⟨t_MOST_LOW,g_MOST_LOW⟩:=T.g_MOST_LOW
 refine ⟨_,(z_d (y_d (PW.pt (v_i (x_a (y_c (z_i (z_x (T := "tuple")) rfl T.isinstance PyProof.Rows.boot_isinstance (z_a (pv 0) (z_a (y_r (v:=.ty "tuple") rfl T.tuple PyProof.Rows.boot_tuple rfl) z_b))) (fun _=>rfl))) (v_i (z_o y_q (z_i z_w rfl T.len PySem.boot_len (z_a (pv 0) z_b)) z_f (nomark _)) (w_j (x_a (y_c (z_h G_is_word (hr.mono (by first | decide | lia)) rfl T.M_is_word T.F_is_word.kp T.B_is_word .nil pass0 (z_a (z_j z_n (pv 0) z_f (fun _ _=>rfl)) z_b)) (fun _=>rfl))))))) (z_g (z_l v_p)) z_q)
  (z_d (z_p (i:=1) sc_is_formed.nd rfl (Or.inl rfl) (z_j z_n (pv 0) z_f (fun _ _=>rfl)))
  (z_d (y_d (z_o n_j (z_i z_w rfl T.len PySem.boot_len (z_a (pv 0) z_b)) (z_j z_n (z_j (p_u D_FORMS) (y_y (v:=.ref A.a_FORMS) rfl T.g_FORMS rfl) (pv 1) (fun _ _=>rfl)) z_f (fun _ _=>rfl)) (nomark _)) (z_g (z_l v_p)) z_q)
  (z_d (y_d (z_o y_q (pv 1) z_k (nomark _)) (z_g (z_l (z_h G_is_name (hr.mono (by first | decide | lia)) rfl T.M_is_name T.F_is_name.kp T.B_is_name .nil pass0 (z_a (z_j z_n (pv 0) z_f (fun _ _=>rfl)) z_b)))) z_q)
  (z_d (y_d (z_o y_q (pv 1) z_k (nomark _)) (z_g (z_l (z_h G_is_number (hr.mono (by first | decide | lia)) rfl T.M_is_number T.F_is_number.kp T.B_is_number .nil pass0 (z_a (z_j z_n (pv 0) z_f (fun _ _=>rfl)) (z_a (z_j z_n (pv 0) z_f (fun _ _=>rfl)) z_b))))) z_q)
  (z_d (y_d (z_o v_t (pv 1) (y_k (z_a z_k (z_a z_k z_b))) rfl) (z_g (z_l (z_h G_is_between (hr.mono (by first | decide | lia)) rfl T.M_is_between T.F_is_between.kp T.B_is_between .nil pass0 (z_a (z_j z_n (pv 0) z_f (fun _ _=>rfl)) (z_a z_f (z_a (y_y (v:=.int 8) rfl g_MOST_SHIFT ⟨_,rfl⟩) z_b)))))) z_q)
  (z_d (y_d (z_o y_q (pv 1) z_k (nomark _)) (z_g (z_l (x_h (z_h G_is_between (hr.mono (by first | decide | lia)) rfl T.M_is_between T.F_is_between.kp T.B_is_between .nil pass0 (z_a (z_j z_n (pv 0) z_f (fun _ _=>rfl)) (z_a z_f (z_a (y_y (v:=.int 7) rfl g_MOST_LOW ⟨_,rfl⟩) z_b)))) (x_r (z_h G_is_width (hr.mono (by first | decide | lia)) rfl T.M_is_width T.F_is_width.kp T.B_is_width .nil pass0 (z_a (z_j z_n (pv 0) z_f (fun _ _=>rfl)) z_b)))))) z_q)
  (z_d (y_d (z_o y_q (pv 1) z_k (nomark _)) (z_g (z_l (z_h G_are_numbers (hr.mono (by first | decide | lia)) rfl T.M_are_numbers T.F_are_numbers.kp T.B_are_numbers .nil pass0 (z_a (z_j z_n (pv 0) z_f (fun _ _=>rfl)) (z_a (z_j z_n (pv 0) z_f (fun _ _=>rfl)) z_b))))) z_q)
  (z_g (z_l v_p)))))))))),?_⟩
 obtain ⟨t,ty,_,_,_,kT,_⟩:=hD.ty (K:=K)
 refine ⟨_,rfl,v,t,_,rfl,ty,kT,_,rfl,?_⟩
 cases d with
 | tuple ds =>
  obtain ⟨p,xs,rfl,hp,hxs⟩:=hD.tupI
  refine z_s rfl ⟨_,rfl,_,_,rfl,.inr ⟨_,SqT.of hp,rfl⟩,rfl,_,rfl,?_⟩
  cases ds with
  | nil =>
   have e:=hxs.nilI
   subst e
   exact y_b (by decide) (iteT (q H (Same.refl H)))
  | cons d0 dr =>
   obtain ⟨x0,r0,rfl,h0,hr0⟩:=hxs.consI
   have hl:=hr0.length
   refine z_s (decide_eq_false (by intro e;injection e with e;rw [List.length_cons] at e;lia)) ⟨_,rfl,p,_,_,_,rfl,rfl,SqT.of hp,(show atI _ ((0:Nat):Int)=_ from z_t rfl),d0,x0,rfl,h0,_,rfl,?_⟩
   cases d0 with
   | str z =>
    have e0:x0 = .str z:=by unfold Dat at h0;exact h0
    subst e0
    have hsd:=(szD_tup.mp hsz).2
    by_cases hz:z∈words
    ·refine z_s (by show (!decide (z∈words))=false;rw [decide_eq_true hz];rfl) ?_
     refine ⟨_,rfl,p,_,_,_,rfl,rfl,SqT.of hp,(show atI _ ((0:Nat):Int)=_ from z_t rfl),?_⟩
     obtain ⟨pf,hlk,hpf⟩:=hkvs z hz
     refine ⟨_,rfl,_,_,rfl,.inr ⟨_,SqT.of hp,rfl⟩,_,rfl,_,_,rfl,rfl,hlk,pf,_,_,_,rfl,rfl,hpf H,rfl,rfl,_,rfl,?_⟩
     by_cases hn:dr.length+1=formN z
     ·have ef:formD (.tuple (.str z::dr))=restD z dr:=by simp only [formD,decide_eq_true hz,decide_eq_true hn,Bool.true_and]
      rw [ef] at q
      refine z_s (by rw [decide_eq_true (congrArg V.int (show (((V.str z::r0).length:Nat):Int)=((formN z:Nat):Int) by rw [List.length_cons,<-hl,hn]))];rfl) ?_
      refine ⟨_,rfl,rfl,_,rfl,?_⟩
      by_cases z1:z = "wire"
      ·subst z1
       obtain ⟨d1,rfl⟩:∃ d1,dr=[d1]:=by
        match dr,(show dr.length=1 by have h9:formN "wire" = 2:=(by decide);lia) with
        | [x],_=>exact ⟨x,rfl⟩
       obtain ⟨x1,r1,rfl,h1,_⟩:=hr0.consI
       refine y_b (by decide) ?_
       exact ⟨_,rfl,p,_,_,_,rfl,rfl,SqT.of hp,(show atI _ ((1:Nat):Int)=_ from z_t rfl),d1,x1,rfl,h1,hsd d1 (by simp),q⟩
      refine z_s (decide_eq_false fun h=>z1 (by injection h)) ⟨_,rfl,rfl,_,rfl,?_⟩
      by_cases z2:z = "number"
      ·subst z2
       obtain ⟨d1,d2,rfl⟩:∃ d1 d2,dr=[d1,d2]:=by
        match dr,(show dr.length=2 by have h9:formN "number" = 3:=(by decide);lia) with
        | [x,y],_=>exact ⟨x,y,rfl⟩
       obtain ⟨x1,r1,rfl,h1,hr1⟩:=hr0.consI
       obtain ⟨x2,r2,rfl,h2,_⟩:=hr1.consI
       refine y_b (by decide) ?_
       exact ⟨_,rfl,p,_,_,_,rfl,rfl,SqT.of hp,(show atI _ ((1:Nat):Int)=_ from z_t rfl),_,rfl,p,_,_,_,rfl,rfl,SqT.of hp,(show atI _ ((2:Nat):Int)=_ from z_t rfl),d1,x1,d2,x2,rfl,h1,h2,q H (Same.refl H)⟩
      refine z_s (decide_eq_false fun h=>z2 (by injection h)) ?_
      refine ⟨_,rfl,zl2,fun p2 hp2=>?_⟩
      have t2:=z_e hp2 (.tup [.str "up",.str "down"])
      have hp':=t2 _ _ hp
      refine ⟨p2,_,rfl,.inr (SqT.of z_c),rfl,rfl,_,rfl,?_⟩
      generalize upd H p2 (.tup [.str "up",.str "down"])=H2 at t2 hp' ⊢
      by_cases z3:z = "up" \/ z = "down"
      ·obtain ⟨d1,d2,rfl⟩:∃ d1 d2,dr=[d1,d2]:=by
        match dr,(show dr.length=2 by rcases z3 with e | e<;>(rw [e] at hn;have h8:formN "up" = 3:=(by decide);have h9:formN "down" = 3:=(by decide);lia)) with
        | [x,y],_=>exact ⟨x,y,rfl⟩
       obtain ⟨x1,r1,rfl,h1,hr1⟩:=hr0.consI
       have er:restD z [d1,d2]=betD d1 0 8:=by unfold restD;rw [if_neg z1,if_neg z2,if_pos z3];rfl
       rw [er] at q
       refine y_b (by rcases z3 with e | e<;>(rw [e];decide)) ?_
       exact ⟨_,rfl,p,_,_,_,rfl,rfl,SqT.of hp',(show atI _ ((1:Nat):Int)=_ from z_t rfl),d1,x1,0,8,rfl,h1.same t2,q H2 t2⟩
      have hnoin:inV (V.str z) [.str "up",.str "down"]=false:=by
       simp [inV,eqV]
       exact ⟨fun h=>z3 (.inl h.symm),fun h=>z3 (.inr h.symm)⟩
      refine z_s hnoin ⟨_,rfl,rfl,_,rfl,?_⟩
      by_cases z4:z = "cut"
      ·subst z4
       obtain ⟨d1,d2,d3,rfl⟩:∃ d1 d2 d3,dr=[d1,d2,d3]:=by
        match dr,(show dr.length=3 by have h9:formN "cut" = 4:=(by decide);lia) with
        | [x,y,w],_=>exact ⟨x,y,w,rfl⟩
       obtain ⟨x1,r1,rfl,h1,hr1⟩:=hr0.consI
       obtain ⟨x2,r2,rfl,h2,_⟩:=hr1.consI
       have er:restD "cut" [d1,d2,d3]=(betD d1 0 7&&widD d2):=rfl
       rw [er] at q
       refine y_b (by decide) ?_
       refine ⟨_,rfl,p,_,_,_,rfl,rfl,SqT.of hp',(show atI _ ((1:Nat):Int)=_ from z_t rfl),d1,x1,0,7,rfl,h1.same t2,_,rfl,?_⟩
       cases hb:betD d1 0 7 with
       | false=>rw [hb] at q;exact iteF (q H2 t2)
       | true=>rw [hb] at q;exact iteT ⟨_,rfl,p,_,_,_,rfl,rfl,SqT.of hp',(show atI _ ((2:Nat):Int)=_ from z_t rfl),d2,x2,rfl,h2.same t2,q H2 t2⟩
      refine z_s (decide_eq_false fun h=>z4 (by injection h)) ⟨_,rfl,rfl,_,rfl,?_⟩
      by_cases z5:z = "table"
      ·subst z5
       obtain ⟨d1,d2,d3,rfl⟩:∃ d1 d2 d3,dr=[d1,d2,d3]:=by
        match dr,(show dr.length=3 by have h9:formN "table" = 4:=(by decide);lia) with
        | [x,y,w],_=>exact ⟨x,y,w,rfl⟩
       obtain ⟨x1,r1,rfl,h1,hr1⟩:=hr0.consI
       obtain ⟨x2,r2,rfl,h2,_⟩:=hr1.consI
       refine y_b (by decide) ?_
       exact ⟨_,rfl,p,_,_,_,rfl,rfl,SqT.of hp',(show atI _ ((2:Nat):Int)=_ from z_t rfl),_,rfl,p,_,_,_,rfl,rfl,SqT.of hp',(show atI _ ((1:Nat):Int)=_ from z_t rfl),d2,x2,d1,x1,rfl,h2.same t2,h1.same t2,fun H3 t3=>q H3 (t2.trans t3)⟩
      refine z_s (decide_eq_false fun h=>z5 (by injection h)) ?_
      have er:restD z dr=true:=by unfold restD;rw [if_neg z1,if_neg z2,if_neg z3,if_neg z4,if_neg z5]
      rw [er] at q
      exact q H2 t2
     ·have ef:formD (.tuple (.str z::dr))=false:=by simp only [formD,decide_eq_false hn,Bool.and_false,Bool.false_and]
      rw [ef] at q
      refine y_b ?_ (q H (Same.refl H))
      rw [decide_eq_false (by intro e;injection e with e;rw [List.length_cons] at e;lia)]
      rfl
    ·have ef:formD (.tuple (.str z::dr))=false:=by simp only [formD,decide_eq_false hz,Bool.false_and]
     rw [ef] at q
     exact y_b (by show (!decide (z∈words))=true;rw [decide_eq_false hz];rfl) (q H (Same.refl H))
   | _=>exact y_b rfl (q H (Same.refl H))
 | _=>exact y_b rfl (iteT (q H (Same.refl H)))
theorem q_w(T:Tx w K mg A):FnOk P w K mg base CX0 1 A.a_sayings_in A.d_sayings_in ["saying"] i_v:=by
 refine T.F_sayings_in.ok p_e (fun vs H Q E h=>?_) (fun cdv A' outer s H vs Q E hr h=>?_)
 ·obtain ⟨p,z,r0,rfl,hp,hz,hk,q⟩:=h
  rfl
 obtain ⟨p,z,r0,rfl,hp,hz,hk,q⟩:=h
 obtain ⟨kvs,D_FORMS,hkeys,hkvs⟩:=T.D_FORMS
 refine ⟨_,(z_g (z_l (y_s u_e (pv 0) (y_p (z_j z_n (z_j (p_u D_FORMS) (y_y (v:=.ref A.a_FORMS) rfl T.g_FORMS rfl) (z_j z_n (pv 0) z_f (fun _ _=>rfl)) (fun _ _=>rfl)) z_f (fun _ _=>rfl))) w_d))),?_⟩
 obtain ⟨pf,hlk,hpf⟩:=hkvs z hz
 have hk1:1<=formK z:=by
  unfold formK
  repeat' split
  all_goals decide
 refine ⟨_,rfl,_,rfl,p,_,_,_,rfl,rfl,SqT.of hp,(show atI _ ((0:Nat):Int)=_ from z_t rfl),_,_,rfl,rfl,hlk,pf,_,_,_,rfl,rfl,hpf H,rfl,_,rfl,p,_,rfl,hp,fun p2 H2 s2 f2=>?_⟩
 have hcut:cutV (V.str z::r0) (some ((formK z:Nat):Int)) none=r0.drop (formK z-1):=by
  rw [n_x (by rw [List.length_cons];lia)]
  obtain ⟨k,hk'⟩:∃ k,formK z=k+1:=⟨formK z-1,by lia⟩
  rw [hk']
  rfl
 rw [hcut] at f2
 exact q p2 _ s2 f2
theorem p_y(T:Tx w K mg A)(G_is_formed:FnOk P w K mg base CX0 6 A.a_is_formed A.d_is_formed ["thing"] o_n)(G_sayings_in:FnOk P w K mg base CX0 1 A.a_sayings_in A.d_sayings_in ["saying"] i_v):FnOk P w K mg base CX0 7 A.a_is_saying A.d_is_saying ["thing"] r_u:=by
 refine T.F_is_saying.ok sc_is_saying (fun vs H Q E h=>?_) (fun cdv A' outer s H vs Q E hr h=>?_)
 ·obtain ⟨d,v,rfl,hD,hsz,q⟩:=h
  rfl
 obtain ⟨d,v,rfl,hD,hsz,q⟩:=h
 obtain ⟨t_MOST_PIECES,g_MOST_PIECES⟩:=T.g_MOST_PIECES
 obtain ⟨t_MOST_DEEP,g_MOST_DEEP⟩:=T.g_MOST_DEEP
 refine ⟨_,(z_d (z_p (i:=1) sc_is_saying.nd rfl (Or.inl rfl) (y_u (z_a (pv 0) z_b)))
  (z_d (z_p (i:=2) sc_is_saying.nd rfl (Or.inl rfl) z_f)
  (z_d (z_p (i:=3) sc_is_saying.nd rfl (Or.inl rfl) z_f)
  (z_d (q_z PassesOwn.never (z_o o_f (z_i z_w rfl T.len PySem.boot_len (z_a (pv 1) z_b)) z_f (nomark _))
    (z_d (z_p (i:=2) sc_is_saying.nd rfl (Or.inl rfl) (z_u y_w (pv 2) z_f))
  (z_d (z_p (i:=3) sc_is_saying.nd rfl (Or.inl rfl) (z_u y_w (pv 3) (z_i z_w rfl T.len PySem.boot_len (z_a (pv 1) z_b))))
  (z_d (y_d (PW.pt (v_i (z_o o_f (pv 2) (y_y (v:=.int 6) rfl g_MOST_DEEP ⟨_,rfl⟩) (nomark _)) (w_j (z_o o_f (pv 3) (y_y (v:=.int 40) rfl g_MOST_PIECES ⟨_,rfl⟩) (nomark _))))) (z_g (z_l v_p)) z_q)
  (z_d (z_p (i:=4) sc_is_saying.nd rfl (Or.inl rfl) (y_u z_b))
  (z_d (x_j PassesOwn.never rfl (x_s (pv 1)) (y_g (i:=5) sc_is_saying.nd rfl (Or.inl rfl))
    (z_d (y_d (x_a (y_c (z_h G_is_formed (hr.mono (by first | decide | lia)) rfl T.M_is_formed T.F_is_formed.kp T.B_is_formed .nil pass0 (z_a (pv 5) z_b)) (fun _=>rfl))) (z_g (z_l v_p)) z_q)
  (z_g (y_z (w_t PySem.F.plainAttrs_list PySem.F.slot_list_extend PySem.F.type_list_extend l_v (pv 4) (z_a (z_h G_sayings_in (hr.mono (by first | decide | lia)) rfl T.M_sayings_in T.F_sayings_in.kp T.B_sayings_in .nil pass0 (z_a (pv 5) z_b)) z_b))))))
  (z_g (z_p (i:=1) sc_is_saying.nd rfl (Or.inl rfl) (pv 4)))))))))
  (z_g (z_l v_p)))))),?_⟩
 refine ⟨_,rfl,zl1,fun lv0 hlv0=>?_⟩
 have s1:=z_e hlv0 (.lst [v])
 have f1:=z_c (H:=H) (a:=lv0) (o:=.lst [v])
 generalize upd H lv0 (.lst [v])=H1 at s1 f1 ⊢
 show tSeq _ _ _ _ H1
 let WI:Nat->St->Hp->Prop:=fun m σ Ha=>∃ (n dp pc:Nat) (L:List PyData) (lv:Addr) (xs:List V) (x4 x5:Option V),σ=[some v,some (.ref lv),some (.int (dp:Int)),some (.int (pc:Int)),x4,x5]/\m=n/\dp+n=6/\pc<=40/\Same H Ha/\Ha lv=some (.lst xs)/\Dats Ha L xs/\(∀ e∈L,szD e=true)/\L.length<=200/\bfs n L pc=sayB d
 refine ⟨WI,⟨6,6,0,0,[d],lv0,[v],none,none,rfl,rfl,rfl,by decide,s1,f1,.cons (hD.same s1) .nil,fun e he=>by rw [List.mem_singleton.mp he];exact hsz,(by show 1<=200;decide),bfs_say d⟩,?_⟩
 rintro m σ Ha ⟨n,dp,pc,L,lv,xs,x4,x5,rfl,rfl,hdn,hpc,sa,fa,hxs,hsL,hL200,hb⟩
 have hxl:=hxs.length
 refine ⟨_,rfl,_,_,rfl,.inl ⟨_,SqL.of fa,rfl⟩,_,_,rfl,rfl,_,rfl,?_⟩
 cases L with
 | nil =>
  have e:=hxs.nilI
  subst e
  refine z_s (by decide) ?_
  have hb':sayB d=true:=by rw [<-hb];cases m<;>rfl
  rw [hb'] at q
  exact q Ha sa
 | cons y rest =>
  refine y_b (decide_eq_true (by rw [<-hxl,List.length_cons];lia)) ?_
  refine ⟨fun σ' H'=>∃ m',m'<m/\WI m' σ' H',fun _ _ h=>h,?_⟩
  refine ⟨_,rfl,_,_,rfl,rfl,?_⟩
  refine ⟨_,rfl,_,rfl,_,_,rfl,.inl ⟨_,SqL.of fa,rfl⟩,_,_,rfl,rfl,?_⟩
  have no:sayB d=false->Q (.bl false) Ha:=fun e=>by rw [e] at q;exact q Ha sa
  refine ⟨_,rfl,_,_,rfl,rfl,_,rfl,?_⟩
  cases m with
  | zero =>
   refine y_b (decide_eq_true (by lia)) (iteT ?_)
   exact no (by rw [<-hb];rfl)
  | succ n =>
   refine z_s (decide_eq_false (by lia)) ?_
   refine ⟨_,rfl,_,_,rfl,rfl,_,rfl,?_⟩
   by_cases hp40:pc+(y::rest).length<=40
   ·refine z_s (decide_eq_false (by rw [<-hxl];lia)) ?_
    have hbE:bfs (n+1) (y::rest) pc=(((y::rest).all formD)&&bfs n ((y::rest).flatMap subD) (pc+(y::rest).length)):=by
     show (decide (pc+(y::rest).length<=40)&&(y::rest).all formD&&_)=_
     rw [decide_eq_true hp40,Bool.true_and]
    rw [hbE] at hb
    generalize hL:y::rest=L at *
    refine ⟨zl0,fun bl hbl=>?_⟩
    have nlb:lv≠bl:=z_r fa hbl
    have s2:=z_e hbl (.lst [])
    refine ⟨_,rfl,lv,rfl,⟨_,SqL.of (s2 _ _ fa)⟩,u_x (xs:=xs) (fun i σ H'=>∃ (z5:Option V) (ys:List V),σ=[some v,some (.ref lv),some (.int ((dp:Int)+1)),some (.int ((pc:Int)+((xs.length:Nat):Int))),some (.ref bl),z5]/\Same Ha H'/\H' bl=some (.lst ys)/\Dats Ha ((L.take i).flatMap subD) ys/\(L.take i).all formD=true) ⟨_,[],rfl,s2,z_c,(by simp;exact Dats.nil),by simp⟩ ?_ ?_ ?_⟩
    ·rintro i σ H' _ ⟨_,_,_,s',_⟩
     exact SqL.of (s' _ _ fa)
    ·rintro i x σ H' hx ⟨z5,ys,rfl,s',fb,hys,hall⟩
     obtain ⟨e,he,hex⟩:=hxs.get hx
     have hi:=(List.getElem?_eq_some_iff.mp he).1
     have hem:e∈L:=List.mem_of_getElem? he
     have htk:L.take (i+1)=L.take i++[e]:=by rw [List.take_add_one,he];rfl
     refine ⟨_,rfl,e,x,rfl,hex.same s',hsL e hem,fun H2 t2=>⟨_,rfl,?_⟩⟩
     cases hf:formD e with
     | false =>
      refine y_b rfl ?_
      have e1:L.all formD=false:=by
       rw [List.all_eq_false]
       exact ⟨e,hem,by rw [hf];decide⟩
      rw [e1,Bool.false_and] at hb
      rw [<-hb] at q
      exact q H2 (sa.trans (s'.trans t2))
     | true =>
      refine z_s rfl ?_
      obtain ⟨z,dr,rfl,hz,hn⟩:=s_z hf
      obtain ⟨p0,qs,rfl,hp0,hqs⟩:=hex.tupI
      obtain ⟨x0,r0,rfl,h0,hr0⟩:=hqs.consI
      have e0:x0 = .str z:=by unfold Dat at h0;exact h0
      subst e0
      have hr0l:=hr0.length
      have hkn:=m_d z hz
      have hyl:=hys.length
      have hfl:((L.take i).flatMap subD).length<=3*L.length:=j_c hall
      have hs2:=s'.trans t2
      refine ⟨_,rfl,.inl ⟨rfl,_,SqL.of (t2 _ _ fb)⟩,_,rfl,p0,z,r0,rfl,hs2 _ _ hp0,hz,by lia,fun p3 H3 t3 f3=>?_⟩
      refine ⟨bl,p3,_,_,rfl,rfl,t3 _ _ (t2 _ _ fb),f3,small (by rw [List.length_drop];lia),?_⟩
      refine ⟨_,_,rfl,x_y (hs2.trans t3) hbl _,z_c,?_,by rw [htk,List.all_append,hall];simp [hf]⟩
      rw [htk,List.flatMap_append]
      refine hys.append ?_
      have:([PyData.tuple (PyData.str z::dr)].flatMap subD)=dr.drop (formK z-1):=by simp [subD]
      rw [this]
      exact hr0.drop _
    ·rintro σ H' ⟨z5,ys,rfl,s',fb,hys,hall⟩
     have htk:L.take xs.length=L:=by rw [<-hxl];exact List.take_length
     rw [htk] at hys hall
     rw [hall,Bool.true_and] at hb
     refine ⟨_,rfl,?_⟩
     refine ⟨n,by lia,n,dp+1,pc+L.length,L.flatMap subD,bl,ys,some (.ref bl),z5,?_,rfl,by lia,hp40,sa.trans s',fb,hys.same s',fun e he=>?_,?_,hb⟩
     ·rw [show ((dp+1:Nat):Int)=(dp:Int)+1 by lia,show ((pc+L.length:Nat):Int)=(pc:Int)+((xs.length:Nat):Int) by rw [<-hxl];lia]
      rfl
     ·obtain ⟨y',hy',hey⟩:=List.mem_flatMap.mp he
      exact sub_sz (hsL y' hy') hey
     ·have h7:=j_c (L:=L) (i:=L.length) (by rw [List.take_length];exact hall)
      rw [List.take_length] at h7
      lia
   ·refine y_b (decide_eq_true (by rw [<-hxl];lia)) ?_
    exact no (by rw [<-hb];show (decide (pc+(y::rest).length<=40)&&_&&_)=false;rw [decide_eq_false hp40];rfl)
theorem r_x(T:Tx w K mg A):FnOk P w K mg base CX0 1 A.a_is_tuple_of A.d_is_tuple_of ["thing", "many"] s_v:=by
 refine T.F_is_tuple_of.ok q_c (fun vs H Q E h=>?_) (fun cdv A' outer s H vs Q E hr h=>?_)
 ·obtain ⟨p,xs,k,rfl,hp,q⟩:=h
  rfl
 obtain ⟨p,xs,k,rfl,hp,q⟩:=h
 refine ⟨_,(z_g (z_l (x_h (z_i (z_x (T := "tuple")) rfl T.isinstance PyProof.Rows.boot_isinstance (z_a (pv 0) (z_a (y_r (v:=.ty "tuple") rfl T.tuple PyProof.Rows.boot_tuple rfl) z_b))) (x_r (x_q y_q (z_i z_w rfl T.len PySem.boot_len (z_a (pv 0) z_b)) (pv 1) (nomark _)))))),?_⟩
 refine ⟨_,rfl,_,_,true,rfl,TyOf.tup hp,rfl,_,rfl,y_b rfl ⟨_,rfl,_,_,rfl,.inr ⟨_,SqT.of hp,rfl⟩,_,rfl,rfl,?_⟩⟩
 exact (congrArg (fun b=>Q (V.bl b) H) (decide_eq_decide.mpr ⟨fun h=>by injection h,fun h=>congrArg V.int h⟩)).mpr q
theorem n_e(T:Tx w K mg A):FnOk P w K mg base CX0 1 A.a_is_short A.d_is_short ["thing", "most"] p_j:=by
 refine T.F_is_short.ok n_l (fun vs H Q E h=>?_) (fun cdv A' outer s H vs Q E hr h=>?_)
 ·obtain ⟨p,xs,k,rfl,hp,q⟩:=h
  rfl
 obtain ⟨p,xs,k,rfl,hp,q⟩:=h
 refine ⟨_,(z_g (z_l (x_h (z_i (z_x (T := "tuple")) rfl T.isinstance PyProof.Rows.boot_isinstance (z_a (pv 0) (z_a (y_r (v:=.ty "tuple") rfl T.tuple PyProof.Rows.boot_tuple rfl) z_b))) (x_r (x_q q_a (z_i z_w rfl T.len PySem.boot_len (z_a (pv 0) z_b)) (pv 1) (nomark _)))))),?_⟩
 exact ⟨_,rfl,_,_,true,rfl,TyOf.tup hp,rfl,_,rfl,y_b rfl ⟨_,rfl,_,_,rfl,.inr ⟨_,SqT.of hp,rfl⟩,_,rfl,_,_,rfl,rfl,q⟩⟩
theorem k_b(T:Tx w K mg A)(G_is_tuple_of:FnOk P w K mg base CX0 1 A.a_is_tuple_of A.d_is_tuple_of ["thing", "many"] s_v)(G_is_name:FnOk P w K mg base CX0 2 A.a_is_name A.d_is_name ["thing"] u_b)(G_is_width:FnOk P w K mg base CX0 3 A.a_is_width A.d_is_width ["thing"] u_f):FnOk P w K mg base CX0 4 A.a_is_port A.d_is_port ["thing"] r_s:=by
 refine T.F_is_port.ok k_i (fun vs H Q E h=>?_) (fun cdv A' outer s H vs Q E hr h=>?_)
 ·obtain ⟨d,v,rfl,ok,hD,q⟩:=h
  rfl
 obtain ⟨d,v,rfl,ok,hD,q⟩:=h
 refine ⟨_,(z_g (z_l (x_h (z_h G_is_tuple_of (hr.mono (by first | decide | lia)) rfl T.M_is_tuple_of T.F_is_tuple_of.kp T.B_is_tuple_of .nil pass0 (z_a (pv 0) (z_a z_f z_b))) (x_h (z_h G_is_name (hr.mono (by first | decide | lia)) rfl T.M_is_name T.F_is_name.kp T.B_is_name .nil pass0 (z_a (z_j z_n (pv 0) z_f (fun _ _=>rfl)) z_b)) (x_r (z_h G_is_width (hr.mono (by first | decide | lia)) rfl T.M_is_width T.F_is_width.kp T.B_is_width .nil pass0 (z_a (z_j z_n (pv 0) z_f (fun _ _=>rfl)) z_b))))))),?_⟩
 obtain ⟨p,xs,rfl,hp,hx⟩:=hD.tupI
 obtain ⟨x1,r1,rfl,h1,hx⟩:=hx.consI
 obtain ⟨x2,r2,rfl,h2,hx⟩:=hx.consI
 cases hx.nilI
 refine ⟨_,rfl,p,_,_,rfl,hp,_,rfl,y_b rfl ?_⟩
 refine ⟨_,rfl,p,_,_,_,rfl,rfl,SqT.of hp,rfl,_,_,rfl,h1,ok.1.szd,fun H1 s1=>⟨_,rfl,y_b ok.1 ?_⟩⟩
 refine ⟨_,rfl,p,_,_,_,rfl,rfl,SqT.of (s1 _ _ hp),rfl,_,_,rfl,h2.same s1,?_⟩
 rw [wid_ok ok.2.1 ok.2.2]
 exact q H1 s1
theorem i_c(T:Tx w K mg A)(G_is_tuple_of:FnOk P w K mg base CX0 1 A.a_is_tuple_of A.d_is_tuple_of ["thing", "many"] s_v)(G_is_name:FnOk P w K mg base CX0 2 A.a_is_name A.d_is_name ["thing"] u_b)(G_is_short:FnOk P w K mg base CX0 1 A.a_is_short A.d_is_short ["thing", "most"] p_j)(G_is_saying:FnOk P w K mg base CX0 7 A.a_is_saying A.d_is_saying ["thing"] r_u):FnOk P w K mg base CX0 8 A.a_is_use A.d_is_use ["thing"] l_a:=by
 refine T.F_is_use.ok i_q (fun vs H Q E h=>?_) (fun cdv A' outer s H vs Q E hr h=>?_)
 ·obtain ⟨p,r,ss,ns,v,rfl,ok,hD,q⟩:=h
  rfl
 obtain ⟨p,r,ss,ns,v,rfl,ok,hD,q⟩:=h
 obtain ⟨t_MOST_PORTS,g_MOST_PORTS⟩:=T.g_MOST_PORTS
 refine ⟨_,(z_d (y_d (PW.pt (v_i (x_a (y_c (z_h G_is_tuple_of (hr.mono (by first | decide | lia)) rfl T.M_is_tuple_of T.F_is_tuple_of.kp T.B_is_tuple_of .nil pass0 (z_a (pv 0) (z_a z_f z_b))) (fun _=>rfl))) (v_i (x_a (y_c (z_h G_is_name (hr.mono (by first | decide | lia)) rfl T.M_is_name T.F_is_name.kp T.B_is_name .nil pass0 (z_a (z_j z_n (pv 0) z_f (fun _ _=>rfl)) z_b)) (fun _=>rfl))) (w_j (x_a (y_c (z_h G_is_name (hr.mono (by first | decide | lia)) rfl T.M_is_name T.F_is_name.kp T.B_is_name .nil pass0 (z_a (z_j z_n (pv 0) z_f (fun _ _=>rfl)) z_b)) (fun _=>rfl))))))) (z_g (z_l v_p)) z_q)
  (z_d (y_d (PW.pt (v_i (x_a (y_c (z_h G_is_short (hr.mono (by first | decide | lia)) rfl T.M_is_short T.F_is_short.kp T.B_is_short .nil pass0 (z_a (z_j z_n (pv 0) z_f (fun _ _=>rfl)) (z_a (y_y (v:=.int 8) rfl g_MOST_PORTS ⟨_,rfl⟩) z_b))) (fun _=>rfl))) (w_j (x_a (y_c (z_h G_is_short (hr.mono (by first | decide | lia)) rfl T.M_is_short T.F_is_short.kp T.B_is_short .nil pass0 (z_a (z_j z_n (pv 0) z_f (fun _ _=>rfl)) (z_a (y_y (v:=.int 8) rfl g_MOST_PORTS ⟨_,rfl⟩) z_b))) (fun _=>rfl)))))) (z_g (z_l v_p)) z_q)
  (z_g (z_l (x_h (z_i w_w rfl T.all PyProof.Rows.boot_all (z_a (y_o [] (fun _ _ h=>h) rfl (w_b (z_j z_n (pv 0) z_f (fun _ _=>rfl))) (fun _ _ _ _=>y_m) (fun _ _ _ _=>(z_h G_is_saying (hr.mono (by first | decide | lia)) rfl T.M_is_saying T.F_is_saying.kp T.B_is_saying .nil pass0 (z_a (pv 0) z_b))) rfl (show ∀ j∈([]:List Nat),j<1 by decide) (show (["saying"]:List Str).Nodup by decide +kernel)) z_b)) (x_r (z_i w_w rfl T.all PyProof.Rows.boot_all (z_a (y_o [] (fun _ _ h=>h) rfl (w_b (z_j z_n (pv 0) z_f (fun _ _=>rfl))) (fun _ _ _ _=>y_m) (fun _ _ _ _=>(z_h G_is_name (hr.mono (by first | decide | lia)) rfl T.M_is_name T.F_is_name.kp T.B_is_name .nil pass0 (z_a (pv 0) z_b))) rfl (show ∀ j∈([]:List Nat),j<1 by decide) (show (["name"]:List Str).Nodup by decide +kernel)) z_b)))))))),?_⟩
 obtain ⟨_,n1,n2,l1,l2,hss,hns⟩:=ok
 obtain ⟨pa,xs,rfl,hp,hx⟩:=hD.tupI
 obtain ⟨x1,r1,rfl,h1,hx⟩:=hx.consI
 obtain ⟨x2,r2,rfl,h2,hx⟩:=hx.consI
 obtain ⟨x3,r3,rfl,h3,hx⟩:=hx.consI
 obtain ⟨x4,r4,rfl,h4,hx⟩:=hx.consI
 cases hx.nilI
 obtain ⟨p3,ys,rfl,hp3,hy⟩:=h3.tupI
 obtain ⟨p4,zs,rfl,hp4,hz⟩:=h4.tupI
 have ly:=hy.length
 have lz:=hz.length
 rw [List.length_map] at lz
 refine ⟨_,rfl,pa,_,_,rfl,hp,_,rfl,z_s rfl ?_⟩
 refine ⟨_,rfl,pa,_,_,_,rfl,rfl,SqT.of hp,rfl,_,_,rfl,h1,n1.szd,fun H1 s1=>⟨_,rfl,z_s (by rw [show nameD (.str p)=true from n1];rfl) ?_⟩⟩
 refine ⟨_,rfl,pa,_,_,_,rfl,rfl,SqT.of (s1 _ _ hp),rfl,_,_,rfl,h2.same s1,n2.szd,fun H2 s2=>⟨_,rfl,z_s (by rw [show nameD (.str r)=true from n2];rfl) ?_⟩⟩
 have s12:=s1.trans s2
 refine ⟨_,rfl,pa,_,_,_,rfl,rfl,SqT.of (s12 _ _ hp),rfl,p3,_,_,rfl,s12 _ _ hp3,_,rfl,z_s (by rw [decide_eq_true (by lia)];rfl) ?_⟩
 refine ⟨_,rfl,pa,_,_,_,rfl,rfl,SqT.of (s12 _ _ hp),rfl,p4,_,_,rfl,s12 _ _ hp4,_,rfl,z_s (by rw [decide_eq_true (by lia)];rfl) ?_⟩
 refine ⟨_,rfl,pa,_,_,_,rfl,rfl,SqT.of (s12 _ _ hp),rfl,p3,rfl,⟨_,SqT.of (s12 _ _ hp3)⟩,w_e (xs:=ys) (fun i ws J=>Same H J/\ws=List.replicate i (V.bl true)) ⟨s12,rfl⟩ ?_ ?_ ?_ ?_⟩
 ·rintro i ws J _ ⟨sJ,_⟩
  exact SqT.of (sJ _ _ hp3)
 ·rintro i ws J hi ⟨_,rfl⟩
  rw [List.length_replicate]
  exact y_j (by lia)
 ·rintro i v ws J hv ⟨sJ,rfl⟩
  obtain ⟨d,hd,hdv⟩:=hy.get hv
  have ok:=hss d (List.mem_of_getElem? hd)
  unfold tYes
  refine iteT ⟨_,rfl,d,v,rfl,hdv.same sJ,ok.1,fun J' s'=>⟨sJ.trans s',?_⟩⟩
  rw [ok.2.1,List.replicate_succ']
 rintro ws J ⟨sJ,rfl⟩ pb hpb
 refine ⟨rfl,pb,List.replicate ys.length true,rfl,SqL.of (by rw [z_c,List.map_replicate]),_,rfl,y_b (by simp) ?_⟩
 have sK:=sJ.trans (z_e hpb (.lst (List.replicate ys.length (V.bl true))))
 generalize upd J pb (.lst (List.replicate ys.length (V.bl true)))=J1 at sK ⊢
 refine ⟨_,rfl,pa,_,_,_,rfl,rfl,SqT.of (sK _ _ hp),rfl,p4,rfl,⟨_,SqT.of (sK _ _ hp4)⟩,w_e (xs:=zs) (fun i ws J=>Same H J/\ws=List.replicate i (V.bl true)) ⟨sK,rfl⟩ ?_ ?_ ?_ ?_⟩
 ·rintro i ws J _ ⟨sJ,_⟩
  exact SqT.of (sJ _ _ hp4)
 ·rintro i ws J hi ⟨_,rfl⟩
  rw [List.length_replicate]
  exact y_j (by lia)
 ·rintro i v ws J hv ⟨sJ,rfl⟩
  obtain ⟨d,hd,hdv⟩:=hz.get hv
  rw [List.getElem?_map] at hd
  obtain ⟨z,hz',rfl⟩:=Option.map_eq_some_iff.mp hd
  have ok:=hns z (List.mem_of_getElem? hz')
  unfold tYes
  refine iteT ⟨_,rfl,_,v,rfl,hdv.same sJ,ok.szd,fun J' s'=>⟨sJ.trans s',?_⟩⟩
  rw [show nameD (.str z)=true from ok,List.replicate_succ']
 rintro ws J' ⟨sJ',rfl⟩ pc hpc
 refine ⟨rfl,pc,List.replicate zs.length true,rfl,SqL.of (by rw [z_c,List.map_replicate]),?_⟩
 rw [o_t]
 exact q _ (sJ'.trans (z_e hpc _))
theorem i_b(T:Tx w K mg A)(G_is_use:FnOk P w K mg base CX0 8 A.a_is_use A.d_is_use ["thing"] l_a)(G_is_port:FnOk P w K mg base CX0 4 A.a_is_port A.d_is_port ["thing"] r_s)(G_is_saying:FnOk P w K mg base CX0 7 A.a_is_saying A.d_is_saying ["thing"] r_u)(G_is_number:FnOk P w K mg base CX0 4 A.a_is_number A.d_is_number ["thing", "width"] v_k)(G_is_between:FnOk P w K mg base CX0 2 A.a_is_between A.d_is_between ["thing", "low", "high"] u_a):FnOk P w K mg base CX0 9 A.a_is_row A.d_is_row ["thing"] m_z:=by
 refine T.F_is_row.ok i_p (fun vs H Q E h=>?_) (fun cdv A' outer s H vs Q E hr h=>?_)
 ·obtain ⟨r,v,rfl,ok,hD,q⟩:=h
  rfl
 obtain ⟨r,v,rfl,ok,hD,q⟩:=h
 obtain ⟨t_MOST_TIMES,g_MOST_TIMES⟩:=T.g_MOST_TIMES
 refine ⟨_,(z_d (y_d (PW.pt (v_i (x_a (y_c (z_i (z_x (T := "tuple")) rfl T.isinstance PyProof.Rows.boot_isinstance (z_a (pv 0) (z_a (y_r (v:=.ty "tuple") rfl T.tuple PyProof.Rows.boot_tuple rfl) z_b))) (fun _=>rfl))) (w_j (z_o y_q (z_i z_w rfl T.len PySem.boot_len (z_a (pv 0) z_b)) z_f (nomark _))))) (z_g (z_l v_p)) z_q)
  (z_d (y_d (z_o y_q (z_j z_n (pv 0) z_f (fun _ _=>rfl)) z_k (nomark _)) (z_g (z_l (x_h (x_q y_q (z_i z_w rfl T.len PySem.boot_len (z_a (pv 0) z_b)) z_f (nomark _)) (x_h (z_h G_is_port (hr.mono (by first | decide | lia)) rfl T.M_is_port T.F_is_port.kp T.B_is_port .nil pass0 (z_a (y_s u_e (pv 0) (y_p z_f) (y_p z_f)) z_b)) (x_r (z_h G_is_saying (hr.mono (by first | decide | lia)) rfl T.M_is_saying T.F_is_saying.kp T.B_is_saying .nil pass0 (z_a (z_j z_n (pv 0) z_f (fun _ _=>rfl)) z_b))))))) z_q)
  (z_d (y_d (z_o y_q (z_j z_n (pv 0) z_f (fun _ _=>rfl)) z_k (nomark _)) (z_g (z_l (x_h (x_q y_q (z_i z_w rfl T.len PySem.boot_len (z_a (pv 0) z_b)) z_f (nomark _)) (x_h (z_h G_is_port (hr.mono (by first | decide | lia)) rfl T.M_is_port T.F_is_port.kp T.B_is_port .nil pass0 (z_a (y_s u_e (pv 0) (y_p z_f) (y_p z_f)) z_b)) (x_h (z_h G_is_number (hr.mono (by first | decide | lia)) rfl T.M_is_number T.F_is_number.kp T.B_is_number .nil pass0 (z_a (z_j z_n (pv 0) z_f (fun _ _=>rfl)) (z_a (z_j z_n (pv 0) z_f (fun _ _=>rfl)) z_b))) (x_r (z_h G_is_saying (hr.mono (by first | decide | lia)) rfl T.M_is_saying T.F_is_saying.kp T.B_is_saying .nil pass0 (z_a (z_j z_n (pv 0) z_f (fun _ _=>rfl)) z_b)))))))) z_q)
  (z_d (y_d (z_o y_q (z_j z_n (pv 0) z_f (fun _ _=>rfl)) z_k (nomark _)) (z_g (z_l (z_h G_is_use (hr.mono (by first | decide | lia)) rfl T.M_is_use T.F_is_use.kp T.B_is_use .nil pass0 (z_a (y_s u_e (pv 0) (y_p z_f) w_d) z_b)))) z_q)
  (z_d (y_d (z_o y_q (z_j z_n (pv 0) z_f (fun _ _=>rfl)) z_k (nomark _)) (z_g (z_l (x_h (x_q y_q (z_i z_w rfl T.len PySem.boot_len (z_a (pv 0) z_b)) z_f (nomark _)) (x_h (z_h G_is_between (hr.mono (by first | decide | lia)) rfl T.M_is_between T.F_is_between.kp T.B_is_between .nil pass0 (z_a (z_j z_n (pv 0) z_f (fun _ _=>rfl)) (z_a z_f (z_a (y_y (v:=.int 8) rfl g_MOST_TIMES ⟨_,rfl⟩) z_b)))) (x_r (z_h G_is_use (hr.mono (by first | decide | lia)) rfl T.M_is_use T.F_is_use.kp T.B_is_use .nil pass0 (z_a (y_s u_e (pv 0) (y_p z_f) w_d) z_b))))))) z_q)
  (z_g (z_l v_p))))))),?_⟩
 cases r with
 | wire n w s =>
  obtain ⟨k1,k2,k3,k4⟩:=ok
  obtain ⟨pa,xs,rfl,hp,hx⟩:=hD.tupI
  obtain ⟨x0,r0,rfl,h0,hx⟩:=hx.consI
  obtain ⟨x1,r1,rfl,h1,hx⟩:=hx.consI
  obtain ⟨x2,r2,rfl,h2,hx⟩:=hx.consI
  obtain ⟨x3,r3,rfl,h3,hx⟩:=hx.consI
  cases hx.nilI
  cases (show x0 = .str "wire" by unfold Dat at h0;exact h0)
  refine ⟨_,rfl,_,_,true,rfl,TyOf.tup hp,rfl,_,rfl,z_s rfl ?_⟩
  refine ⟨_,rfl,_,_,rfl,.inr ⟨_,SqT.of hp,rfl⟩,rfl,_,rfl,z_s rfl ?_⟩
  refine ⟨_,rfl,pa,_,_,_,rfl,rfl,SqT.of hp,rfl,rfl,_,rfl,y_b (by decide) ?_⟩
  refine ⟨_,rfl,_,_,rfl,.inr ⟨_,SqT.of hp,rfl⟩,rfl,_,rfl,y_b rfl ?_⟩
  refine ⟨_,rfl,_,rfl,_,rfl,pa,_,rfl,hp,fun p1 H1 s1 e1=>⟨(n,w),_,rfl,⟨k1,k2,k3⟩,.tup e1 (.cons (h1.same s1) (.cons (h2.same s1) .nil)),fun H2 s2=>⟨_,rfl,y_b rfl ?_⟩⟩⟩
  have s12:=s1.trans s2
  refine ⟨_,rfl,pa,_,_,_,rfl,rfl,SqT.of (s12 _ _ hp),rfl,_,_,rfl,h3.same s12,k4.1,fun H3 s3=>?_⟩
  rw [k4.2.1]
  exact q H3 (s12.trans s3)
 | box n w x s =>
  obtain ⟨k1,k2,k3,kx,k4⟩:=ok
  obtain ⟨pa,xs,rfl,hp,hx⟩:=hD.tupI
  obtain ⟨x0,r0,rfl,h0,hx⟩:=hx.consI
  obtain ⟨x1,r1,rfl,h1,hx⟩:=hx.consI
  obtain ⟨x2,r2,rfl,h2,hx⟩:=hx.consI
  obtain ⟨x3,r3,rfl,h3,hx⟩:=hx.consI
  obtain ⟨x4,r4,rfl,h4,hx⟩:=hx.consI
  cases hx.nilI
  cases (show x0 = .str "box" by unfold Dat at h0;exact h0)
  refine ⟨_,rfl,_,_,true,rfl,TyOf.tup hp,rfl,_,rfl,z_s rfl ?_⟩
  refine ⟨_,rfl,_,_,rfl,.inr ⟨_,SqT.of hp,rfl⟩,rfl,_,rfl,z_s rfl ?_⟩
  refine ⟨_,rfl,pa,_,_,_,rfl,rfl,SqT.of hp,rfl,rfl,_,rfl,z_s (by decide) ?_⟩
  refine ⟨_,rfl,pa,_,_,_,rfl,rfl,SqT.of hp,rfl,rfl,_,rfl,y_b (by decide) ?_⟩
  refine ⟨_,rfl,_,_,rfl,.inr ⟨_,SqT.of hp,rfl⟩,rfl,_,rfl,y_b rfl ?_⟩
  refine ⟨_,rfl,_,rfl,_,rfl,pa,_,rfl,hp,fun p1 H1 s1 e1=>⟨(n,w),_,rfl,⟨k1,k2,k3⟩,.tup e1 (.cons (h1.same s1) (.cons (h2.same s1) .nil)),fun H2 s2=>⟨_,rfl,y_b rfl ?_⟩⟩⟩
  have s12:=s1.trans s2
  refine ⟨_,rfl,pa,_,_,_,rfl,rfl,SqT.of (s12 _ _ hp),rfl,_,rfl,pa,_,_,_,rfl,rfl,SqT.of (s12 _ _ hp),rfl,_,_,_,_,rfl,h3.same s12,h2.same s12,_,rfl,y_b (num_ok k2 k3 kx) ?_⟩
  refine ⟨_,rfl,pa,_,_,_,rfl,rfl,SqT.of (s12 _ _ hp),rfl,_,_,rfl,h4.same s12,k4.1,fun H3 s3=>?_⟩
  rw [k4.2.1]
  exact q H3 (s12.trans s3)
 | use t p z ss ns =>
  cases t with
  | none =>
   obtain ⟨pa,xs,rfl,hp,hx⟩:=hD.tupI
   obtain ⟨x0,r0,rfl,h0,hx⟩:=hx.consI
   obtain ⟨x1,r1,rfl,h1,hx⟩:=hx.consI
   obtain ⟨x2,r2,rfl,h2,hx⟩:=hx.consI
   obtain ⟨x3,r3,rfl,h3,hx⟩:=hx.consI
   obtain ⟨x4,r4,rfl,h4,hx⟩:=hx.consI
   cases hx.nilI
   cases (show x0 = .str "part" by unfold Dat at h0;exact h0)
   refine ⟨_,rfl,_,_,true,rfl,TyOf.tup hp,rfl,_,rfl,z_s rfl ?_⟩
   refine ⟨_,rfl,_,_,rfl,.inr ⟨_,SqT.of hp,rfl⟩,rfl,_,rfl,z_s rfl ?_⟩
   refine ⟨_,rfl,pa,_,_,_,rfl,rfl,SqT.of hp,rfl,rfl,_,rfl,z_s (by decide) ?_⟩
   refine ⟨_,rfl,pa,_,_,_,rfl,rfl,SqT.of hp,rfl,rfl,_,rfl,z_s (by decide) ?_⟩
   refine ⟨_,rfl,pa,_,_,_,rfl,rfl,SqT.of hp,rfl,rfl,_,rfl,y_b (by decide) ?_⟩
   exact ⟨_,rfl,_,rfl,pa,_,rfl,hp,fun p1 H1 s1 e1=>⟨p,z,ss,ns,_,rfl,ok,.tup e1 (.cons (h1.same s1) (.cons (h2.same s1) (.cons (h3.same s1) (.cons (h4.same s1) .nil)))),fun H2 s2=>q H2 (s1.trans s2)⟩⟩
  | some t =>
   obtain ⟨k0,ok⟩:=ok
   obtain ⟨t1,t8⟩:=k0 t rfl
   obtain ⟨pa,xs,rfl,hp,hx⟩:=hD.tupI
   obtain ⟨x0,r0,rfl,h0,hx⟩:=hx.consI
   obtain ⟨x5,r5,rfl,h5,hx⟩:=hx.consI
   obtain ⟨x1,r1,rfl,h1,hx⟩:=hx.consI
   obtain ⟨x2,r2,rfl,h2,hx⟩:=hx.consI
   obtain ⟨x3,r3,rfl,h3,hx⟩:=hx.consI
   obtain ⟨x4,r4,rfl,h4,hx⟩:=hx.consI
   cases hx.nilI
   cases (show x0 = .str "times" by unfold Dat at h0;exact h0)
   refine ⟨_,rfl,_,_,true,rfl,TyOf.tup hp,rfl,_,rfl,z_s rfl ?_⟩
   refine ⟨_,rfl,_,_,rfl,.inr ⟨_,SqT.of hp,rfl⟩,rfl,_,rfl,z_s rfl ?_⟩
   refine ⟨_,rfl,pa,_,_,_,rfl,rfl,SqT.of hp,rfl,rfl,_,rfl,z_s (by decide) ?_⟩
   refine ⟨_,rfl,pa,_,_,_,rfl,rfl,SqT.of hp,rfl,rfl,_,rfl,z_s (by decide) ?_⟩
   refine ⟨_,rfl,pa,_,_,_,rfl,rfl,SqT.of hp,rfl,rfl,_,rfl,z_s (by decide) ?_⟩
   refine ⟨_,rfl,pa,_,_,_,rfl,rfl,SqT.of hp,rfl,rfl,_,rfl,y_b (by decide) ?_⟩
   refine ⟨_,rfl,_,_,rfl,.inr ⟨_,SqT.of hp,rfl⟩,rfl,_,rfl,y_b rfl ?_⟩
   refine ⟨_,rfl,pa,_,_,_,rfl,rfl,SqT.of hp,rfl,_,_,_,_,rfl,h5,_,rfl,y_b (k_r (lo:=1) (hi:=8) t1 t8) ?_⟩
   exact ⟨_,rfl,_,rfl,pa,_,rfl,hp,fun p1 H1 s1 e1=>⟨p,z,ss,ns,_,rfl,⟨(fun k h=>by cases h),ok⟩,.tup e1 (.cons (h1.same s1) (.cons (h2.same s1) (.cons (h3.same s1) (.cons (h4.same s1) .nil)))),fun H2 s2=>q H2 (s1.trans s2)⟩⟩
theorem l_z(T:Tx w K mg A)(G_is_tuple_of:FnOk P w K mg base CX0 1 A.a_is_tuple_of A.d_is_tuple_of ["thing", "many"] s_v)(G_is_name:FnOk P w K mg base CX0 2 A.a_is_name A.d_is_name ["thing"] u_b)(G_is_short:FnOk P w K mg base CX0 1 A.a_is_short A.d_is_short ["thing", "most"] p_j)(G_is_port:FnOk P w K mg base CX0 4 A.a_is_port A.d_is_port ["thing"] r_s)(G_is_row:FnOk P w K mg base CX0 9 A.a_is_row A.d_is_row ["thing"] m_z):FnOk P w K mg base CX0 10 A.a_is_part A.d_is_part ["thing"] o_o:=by
 refine T.F_is_part.ok sc_is_part (fun vs H Q E h=>?_) (fun cdv A' outer s H vs Q E hr h=>?_)
 ·obtain ⟨p,v,rfl,ok,hD,q⟩:=h
  rfl
 obtain ⟨p,v,rfl,ok,hD,q⟩:=h
 obtain ⟨t_MOST_PORTS,g_MOST_PORTS⟩:=T.g_MOST_PORTS
 obtain ⟨t_MOST_ROWS,g_MOST_ROWS⟩:=T.g_MOST_ROWS
 refine ⟨_,(z_d (y_d (PW.pt (v_i (x_a (y_c (z_h G_is_tuple_of (hr.mono (by first | decide | lia)) rfl T.M_is_tuple_of T.F_is_tuple_of.kp T.B_is_tuple_of .nil pass0 (z_a (pv 0) (z_a z_f z_b))) (fun _=>rfl))) (w_j (x_a (y_c (z_h G_is_name (hr.mono (by first | decide | lia)) rfl T.M_is_name T.F_is_name.kp T.B_is_name .nil pass0 (z_a (z_j z_n (pv 0) z_f (fun _ _=>rfl)) z_b)) (fun _=>rfl)))))) (z_g (z_l v_p)) z_q)
  (z_d (y_d (PW.pt (v_i (x_a (y_c (z_h G_is_short (hr.mono (by first | decide | lia)) rfl T.M_is_short T.F_is_short.kp T.B_is_short .nil pass0 (z_a (z_j z_n (pv 0) z_f (fun _ _=>rfl)) (z_a (y_y (v:=.int 8) rfl g_MOST_PORTS ⟨_,rfl⟩) z_b))) (fun _=>rfl))) (v_i (x_a (y_c (z_h G_is_short (hr.mono (by first | decide | lia)) rfl T.M_is_short T.F_is_short.kp T.B_is_short .nil pass0 (z_a (z_j z_n (pv 0) z_f (fun _ _=>rfl)) (z_a (y_y (v:=.int 8) rfl g_MOST_PORTS ⟨_,rfl⟩) z_b))) (fun _=>rfl))) (w_j (x_a (y_c (z_h G_is_short (hr.mono (by first | decide | lia)) rfl T.M_is_short T.F_is_short.kp T.B_is_short .nil pass0 (z_a (z_j z_n (pv 0) z_f (fun _ _=>rfl)) (z_a (y_y (v:=.int 20) rfl g_MOST_ROWS ⟨_,rfl⟩) z_b))) (fun _=>rfl))))))) (z_g (z_l v_p)) z_q)
  (z_d (z_p (i:=1) sc_is_part.nd rfl (Or.inl rfl) (z_u v_o (z_j z_n (pv 0) z_f (fun _ _=>rfl)) (z_j z_n (pv 0) z_f (fun _ _=>rfl))))
  (z_g (z_l (x_h (z_i w_w rfl T.all PyProof.Rows.boot_all (z_a (y_o [] (fun _ _ h=>h) rfl (w_b (pv 1)) (fun _ _ _ _=>y_m) (fun _ _ _ _=>(z_h G_is_port (hr.mono (by first | decide | lia)) rfl T.M_is_port T.F_is_port.kp T.B_is_port .nil pass0 (z_a (pv 0) z_b))) rfl (show ∀ j∈([]:List Nat),j<2 by decide) (show (["port"]:List Str).Nodup by decide +kernel)) z_b)) (x_r (z_i w_w rfl T.all PyProof.Rows.boot_all (z_a (y_o [] (fun _ _ h=>h) rfl (w_b (z_j z_n (pv 0) z_f (fun _ _=>rfl))) (fun _ _ _ _=>y_m) (fun _ _ _ _=>(z_h G_is_row (hr.mono (by first | decide | lia)) rfl T.M_is_row T.F_is_row.kp T.B_is_row .nil pass0 (z_a (pv 0) z_b))) rfl (show ∀ j∈([]:List Nat),j<2 by decide) (show (["row"]:List Str).Nodup by decide +kernel)) z_b))))))))),?_⟩
 obtain ⟨pa,xs,rfl,hp,hx⟩:=hD.tupI
 obtain ⟨x1,r1,rfl,h1,hx⟩:=hx.consI
 obtain ⟨x2,r2,rfl,h2,hx⟩:=hx.consI
 obtain ⟨x3,r3,rfl,h3,hx⟩:=hx.consI
 obtain ⟨x4,r4,rfl,h4,hx⟩:=hx.consI
 cases hx.nilI
 obtain ⟨p2,ys,rfl,hp2,hy⟩:=h2.tupI
 obtain ⟨p3,zs,rfl,hp3,hz⟩:=h3.tupI
 obtain ⟨p4,us,rfl,hp4,hu⟩:=h4.tupI
 have ly:=hy.length
 have lz:=hz.length
 have lu:=hu.length
 have:=ok.il
 have:=ok.ol
 have:=ok.rl
 rw [List.length_map] at ly lz lu
 refine ⟨_,rfl,pa,_,_,rfl,hp,_,rfl,z_s rfl ?_⟩
 refine ⟨_,rfl,pa,_,_,_,rfl,rfl,SqT.of hp,rfl,_,_,rfl,h1,ok.name.szd,fun H1 s1=>⟨_,rfl,z_s (by rw [show nameD (.str p.name)=true from ok.name];rfl) ?_⟩⟩
 refine ⟨_,rfl,pa,_,_,_,rfl,rfl,SqT.of (s1 _ _ hp),rfl,p2,_,_,rfl,s1 _ _ hp2,_,rfl,z_s (by rw [decide_eq_true (by lia)];rfl) ?_⟩
 refine ⟨_,rfl,pa,_,_,_,rfl,rfl,SqT.of (s1 _ _ hp),rfl,p3,_,_,rfl,s1 _ _ hp3,_,rfl,z_s (by rw [decide_eq_true (by lia)];rfl) ?_⟩
 refine ⟨_,rfl,pa,_,_,_,rfl,rfl,SqT.of (s1 _ _ hp),rfl,p4,_,_,rfl,s1 _ _ hp4,_,rfl,z_s (by rw [decide_eq_true (by lia)];rfl) ?_⟩
 refine ⟨_,rfl,pa,_,_,_,rfl,rfl,SqT.of (s1 _ _ hp),rfl,_,rfl,pa,_,_,_,rfl,rfl,SqT.of (s1 _ _ hp),rfl,p2,p3,_,_,rfl,rfl,s1 _ _ hp2,s1 _ _ hp3,small (by lia),fun pq H2 s2 eq=>?_⟩
 have s12:=s1.trans s2
 have hyz:=(hy.append hz).same s12
 rw [<-List.map_append] at hyz
 dsimp only [gName]
 refine ⟨_,rfl,pq,rfl,⟨_,SqT.of eq⟩,w_e (xs:=ys++zs) (fun i ws J=>Same H2 J/\ws=List.replicate i (V.bl true)) ⟨Same.refl _,rfl⟩ ?_ ?_ ?_ ?_⟩
 ·rintro i ws J _ ⟨sJ,_⟩
  exact SqT.of (sJ _ _ eq)
 ·rintro i ws J hi ⟨_,rfl⟩
  rw [List.length_append] at hi
  rw [List.length_replicate]
  exact y_j (by lia)
 ·rintro i v ws J hv ⟨sJ,rfl⟩
  obtain ⟨d,hd,hdv⟩:=hyz.get hv
  rw [List.getElem?_map] at hd
  obtain ⟨z,hz',rfl⟩:=Option.map_eq_some_iff.mp hd
  have okz:PtOk z:=(List.mem_append.mp (List.mem_of_getElem? hz')).elim (ok.ins z) (ok.outs z)
  unfold tYes
  refine iteT ⟨_,rfl,z,v,rfl,okz,hdv.same sJ,fun J' s'=>⟨sJ.trans s',?_⟩⟩
  rw [List.replicate_succ']
 rintro ws J ⟨sJ,rfl⟩ pb hpb
 refine ⟨rfl,pb,List.replicate (ys++zs).length true,rfl,SqL.of (by rw [z_c,List.map_replicate]),_,rfl,y_b (by simp) ?_⟩
 have sK:=(s12.trans sJ).trans (z_e hpb (.lst (List.replicate (ys++zs).length (V.bl true))))
 generalize upd J pb (.lst (List.replicate (ys++zs).length (V.bl true)))=J1 at sK ⊢
 refine ⟨_,rfl,pa,_,_,_,rfl,rfl,SqT.of (sK _ _ hp),rfl,p4,rfl,⟨_,SqT.of (sK _ _ hp4)⟩,w_e (xs:=us) (fun i ws J=>Same H J/\ws=List.replicate i (V.bl true)) ⟨sK,rfl⟩ ?_ ?_ ?_ ?_⟩
 ·rintro i ws J _ ⟨sJ,_⟩
  exact SqT.of (sJ _ _ hp4)
 ·rintro i ws J hi ⟨_,rfl⟩
  rw [List.length_replicate]
  exact y_j (by lia)
 ·rintro i v ws J hv ⟨sJ,rfl⟩
  obtain ⟨d,hd,hdv⟩:=hu.get hv
  rw [List.getElem?_map] at hd
  obtain ⟨z,hz',rfl⟩:=Option.map_eq_some_iff.mp hd
  unfold tYes
  refine iteT ⟨_,rfl,z,v,rfl,ok.rows z (List.mem_of_getElem? hz'),hdv.same sJ,fun J' s'=>⟨sJ.trans s',?_⟩⟩
  rw [List.replicate_succ']
 rintro ws J' ⟨sJ',rfl⟩ pc hpc
 refine ⟨rfl,pc,List.replicate us.length true,rfl,SqL.of (by rw [z_c,List.map_replicate]),?_⟩
 rw [o_t]
 exact q _ (sJ'.trans (z_e hpc _))
theorem k_a(T:Tx w K mg A)(G_is_part:FnOk P w K mg base CX0 10 A.a_is_part A.d_is_part ["thing"] o_o):FnOk P w K mg base CX0 11 A.a_is_plan A.d_is_plan ["thing"] o_p:=by
 refine T.F_is_plan.ok k_h (fun vs H Q E h=>?_) (fun cdv A' outer s H vs Q E hr h=>?_)
 ·obtain ⟨l,ps,xs,rfl,h1,h6,ok,hl,hD,q⟩:=h
  rfl
 obtain ⟨l,ps,xs,rfl,h1,h6,ok,hl,hD,q⟩:=h
 obtain ⟨t_MOST_PARTS,g_MOST_PARTS⟩:=T.g_MOST_PARTS
 refine ⟨_,(z_d (y_d (PW.pt (v_i (x_a (y_c (z_i (z_x (T := "list")) rfl T.isinstance PyProof.Rows.boot_isinstance (z_a (pv 0) (z_a (y_r (v:=.ty "list") rfl T.list PyProof.Rows.boot_list rfl) z_b))) (fun _=>rfl))) (w_j (x_a (m_r q_a q_a z_f (z_i z_w rfl T.len PySem.boot_len (z_a (pv 0) z_b)) (y_y (v:=.int 6) rfl g_MOST_PARTS ⟨_,rfl⟩)))))) (z_g (z_l v_p)) z_q)
  (z_g (z_l (z_i w_w rfl T.all PyProof.Rows.boot_all (z_a (y_o [] (fun _ _ h=>h) rfl (x_s (pv 0)) (fun _ _ _ _=>y_m) (fun _ _ _ _=>(z_h G_is_part (hr.mono (by first | decide | lia)) rfl T.M_is_part T.F_is_part.kp T.B_is_part .nil pass0 (z_a (pv 0) z_b))) rfl (show ∀ j∈([]:List Nat),j<1 by decide) (show (["part"]:List Str).Nodup by decide +kernel)) z_b))))),?_⟩
 have lx:=hD.length
 rw [List.length_map] at lx
 refine ⟨_,rfl,_,_,true,rfl,TyOf.lst hl,rfl,_,rfl,z_s rfl ?_⟩
 refine ⟨_,rfl,_,_,rfl,.inl ⟨_,SqL.of hl,rfl⟩,_,_,rfl,rfl,_,rfl,y_b (decide_eq_true (by lia)) ⟨_,_,rfl,rfl,_,rfl,z_s (by rw [decide_eq_true (by lia)];rfl) ?_⟩⟩
 refine ⟨_,rfl,l,rfl,⟨_,SqL.of hl⟩,w_h (xs:=xs) (fun i ws J=>Same H J/\ws=List.replicate i (V.bl true)) ⟨Same.refl _,rfl⟩ ?_ ?_ ?_ ?_⟩
 ·rintro i ws J _ ⟨sJ,_⟩
  exact SqL.of (sJ _ _ hl)
 ·rintro i ws J hi ⟨_,rfl⟩
  rw [List.length_replicate]
  exact y_j (by lia)
 ·rintro i v ws J hv ⟨sJ,rfl⟩
  obtain ⟨d,hd,hdv⟩:=hD.get hv
  rw [List.getElem?_map] at hd
  obtain ⟨z,hz',rfl⟩:=Option.map_eq_some_iff.mp hd
  unfold tYes
  refine iteT ⟨_,rfl,z,v,rfl,ok z (List.mem_of_getElem? hz'),hdv.same sJ,fun J' s'=>⟨sJ.trans s',?_⟩⟩
  rw [List.replicate_succ']
 rintro ws J' ⟨sJ',rfl⟩ pc hpc
 refine ⟨rfl,pc,List.replicate xs.length true,rfl,SqL.of (by rw [z_c,List.map_replicate]),?_⟩
 rw [o_t]
 exact q _ (sJ'.trans (z_e hpc _))
theorem k_d(T:Tx w K mg A):FnOk P w K mg base CX0 1 A.a_rows_of A.d_rows_of ["text"] r_t:=by
 refine T.F_rows_of.ok sc_rows_of (fun vs H Q E h=>?_) (fun cdv A' outer s H vs Q E hr h=>?_)
 ·obtain ⟨rows,rfl,hne,ok,q⟩:=h
  rfl
 obtain ⟨rows,rfl,hne,ok,q⟩:=h
 refine ⟨_,(z_d (y_d (x_a (y_c (z_i (z_x (T := "str")) rfl T.isinstance PyProof.Rows.boot_isinstance (z_a (pv 0) (z_a (y_r (v:=.ty "str") rfl T.str PyProof.Rows.boot_str rfl) z_b))) (fun _=>rfl))) (z_g x_t) z_q)
  (z_d (ps_comp [] sc_rows_of.nd (i:=1) rfl (Or.inl rfl) (fun _ _ h=>h) rfl (x_s (w_t PySem.F.plainAttrs_str PySem.F.slot_str_split PySem.F.type_str_split m_h (pv 0) (z_a z_k z_b))) (fun _ _ _ _=>y_m) (fun _ _ _ _=>(pe_bmK (K:=K) rfl PySem.F.plainAttrs_str PySem.F.slot_str_split PySem.F.type_str_split m_h (pv 0) (z_a z_k z_b))) rfl (show ∀ j∈([]:List Nat),j<3 by decide) (show (["row"]:List Str).Nodup by decide +kernel) (by with_unfolding_all rfl))
  (z_d (x_j PassesOwn.never rfl (x_s (pv 1)) (y_g (i:=2) sc_rows_of.nd rfl (Or.inl rfl))
    (z_g (y_d (z_o v_t z_k (pv 2) rfl) (z_g x_t) z_q)))
  (z_g (z_l (pv 1)))))),?_⟩
 have hl:=txt_lenP ok.gw ok.len ok.many
 refine ⟨_,rfl,_,_,true,rfl,TyOf.str _,rfl,_,rfl,?_⟩
 refine z_s rfl ?_
 refine ⟨_,rfl,rfl,_,_,rfl,rfl,rfl,Nat.le_trans (show _<=4000000 by lia) (by decide),fun l hl0=>?_⟩
 have s1:=z_e hl0 (.lst (((Txt.split (txt rows) (Str.ofString "\n"))).map V.str))
 rw [e10,h_b hne ok.gw] at s1 ⊢
 have f1:=z_c (H:=H) (a:=l) (o:=.lst ((rows.map rowT).map V.str))
 generalize upd H l (.lst ((rows.map rowT).map V.str))=H1 at s1 f1 ⊢
 refine ⟨l,rfl,⟨_,SqL.of f1⟩,w_h (xs:=(rows.map rowT).map V.str) (fun i ys H'=>∃ rs,ys=rs.map V.ref/\Same H1 H'/\Paired (fun r ws=>H' r=some (.lst (sV ws))) rs (rows.take i)) ⟨[],rfl,Same.refl _,.nil⟩ ?_ ?_ ?_ ?_⟩
 ·rintro i ys H' _ ⟨_,_,s,_⟩
  exact SqL.of (s _ _ f1)
 ·rintro i ys H' _ ⟨rs,rfl,_,pr⟩
  have:=Paired.length pr
  rw [List.length_take] at this
  have:=ok.many
  rw [List.length_map]
  exact y_j (by lia)
 ·rintro i x ys H' hx ⟨rs,rfl,s,pr⟩
  obtain ⟨ws,hi,rfl⟩:∃ ws,rows[i]? = some ws/\V.str (rowT ws)=x:=by
   rw [List.map_map,List.getElem?_map] at hx
   exact Option.map_eq_some_iff.mp hx
  have hm:=List.mem_of_getElem? hi
  have hrl:=w_g (ok.gw ws hm) (ok.len ws hm)
  refine ⟨_,rfl,rfl,_,_,rfl,rfl,rfl,Nat.le_trans (show _<=4000000 by lia) (by decide),fun p hp=>?_⟩
  rw [e32,i_j (ok.full ws hm) (ok.gw ws hm)]
  have s2:=z_e hp (.lst (sV ws))
  refine ⟨rs++[p],by rw [List.map_append];rfl,s.trans s2,?_⟩
  rw [List.take_add_one,hi]
  exact x_o (R:=fun r (v:List Str)=>(upd H' p (.lst (sV ws))) r=some (.lst (sV v))) z_c (y_l (fun r v z=>s2 _ _ z) pr)
 ·rintro ys H' ⟨rs,rfl,s,pr⟩ y hy
  rw [List.length_map,List.length_map,List.take_length] at pr
  have s2:=s.trans (z_e hy (.lst (rs.map V.ref)))
  have T:TRw (upd H' y (.lst (rs.map V.ref))) y rs rows:=⟨z_c,y_l (fun r v z=>(z_e hy _) _ _ z) pr⟩
  have hyH:H y=none:=s1.free (s.free hy)
  show tSeq _ _ _ _ (upd H' y (.lst (rs.map V.ref)))
  generalize upd H' y (.lst (rs.map V.ref))=H3 at T s2 ⊢
  refine ⟨_,rfl,y,rfl,⟨_,SqL.of T.1⟩,u_x (xs:=rs.map V.ref) (fun i σ H'=>∃ x,σ=[some (.str (txt rows)),some (.ref y),x]/\H3=H') ⟨_,rfl,rfl⟩ ?_ ?_ ?_⟩
  ·rintro i σ H' _ ⟨x,_,rfl⟩
   exact SqL.of T.1
  ·rintro i x σ H' hx ⟨x3,rfl,rfl⟩
   obtain ⟨r,hr1,rfl⟩:∃ r,rs[i]? = some r/\V.ref r=x:=by
    rw [List.getElem?_map] at hx
    exact Option.map_eq_some_iff.mp hx
   obtain ⟨ws,h1,h2⟩:=x_p T.2 hr1
   refine ⟨_,rfl,r,_,rfl,.inl (SqL.of h2),rfl,flatS ws,_,rfl,?_⟩
   exact z_s (noEmpty (ok.gw ws (List.mem_of_getElem? h1))) ⟨_,rfl,rfl⟩
  ·rintro σ H4 ⟨x3,rfl,rfl⟩
   exact ⟨_,rfl,q y rs _ hyH (s1.trans s2) T⟩
theorem k_e(T:Tx w K mg A):FnOk P w K mg base CX0 1 A.a_text_of A.d_text_of ["rows"] r_v:=by
 refine T.F_text_of.ok k_k (fun vs H Q E h=>?_) (fun cdv A' outer s H vs Q E hr h=>?_)
 ·obtain ⟨p,rs,rows,rfl,T,ok,q⟩:=h
  rfl
 obtain ⟨p,rs,rows,rfl,T,ok,q⟩:=h
 refine ⟨_,(z_g (z_l (w_t PySem.F.plainAttrs_str PySem.F.slot_str_join PySem.F.type_str_join q_p z_k (z_a (y_o [] (fun _ _ h=>h) rfl (x_s (pv 0)) (fun _ _ _ _=>y_m) (fun _ _ _ _=>(pe_bmK (K:=K) rfl PySem.F.plainAttrs_str PySem.F.slot_str_join PySem.F.type_str_join (mt_joinK (K:=K) rfl) z_k (z_a (pv 0) z_b))) rfl (show ∀ j∈([]:List Nat),j<1 by decide) (show (["row"]:List Str).Nodup by decide +kernel)) z_b)))),?_⟩
 refine ⟨rfl,_,rfl,p,rfl,⟨_,SqL.of T.1⟩,o_z (f:=fun ws=>V.str (rowT ws)) (SqL.of T.1) T.2 (by have:=Paired.length T.2;have:=ok.many;lia) (fun r ws h hm N hN=>?_) fun y hy=>?_⟩
 ·refine ⟨rfl,_,rfl,_,r,ws,rfl,rfl,SqL.of h,?_,?_⟩
  ·have h1:=StrLaws.sumLen_le (B:=20) ws fun w hw=>(ok.gw ws hm w hw).2.2.2
   have h2:=ok.len ws hm
   rw [e32]
   show _+ws.length*1<=_
   lia
  ·unfold rowT at hN
   rw [show Txt.join (Str.ofString " ") ws=Str.join ⟨#[32]⟩ ws from by rw [e32];exact StrLaws.glued_eq_join _ _]
   exact hN
 ·have e:rows.map (fun ws=>V.str (rowT ws))=(rows.map rowT).map V.str:=by rw [List.map_map];rfl
  rw [e]
  refine ⟨_,y,rows.map rowT,rfl,rfl,SqL.of z_c,?_,?_⟩
  ·have h1:=StrLaws.sumLen_le (B:=16800) (rows.map rowT) fun t ht=>by obtain ⟨ws,h1,rfl⟩:=List.mem_map.mp ht;exact w_g (ok.gw ws h1) (ok.len ws h1)
   have h2:=ok.many
   rw [List.length_map] at h1 ⊢
   rw [e10]
   show _+rows.length*1<=_
   lia
  ·rw [show Txt.join (Str.ofString "\n") (rows.map rowT)=txt rows from by rw [e10];exact StrLaws.glued_eq_join _ _]
   exact q _ (z_e hy _)
theorem r_z(T:Tx w K mg A):FnOk P w K mg base CX0 1 A.a_sections_of A.d_sections_of ["rows", "words"] i_u:=by
 refine T.F_sections_of.ok sc_sections_of (fun vs H Q E h=>?_) (fun cdv A' outer s H vs Q E hr h=>?_)
 ·obtain ⟨p,t,rs0,rt,ws,secs,rfl,hp,ht,S,hrt,hrs,hws,q⟩:=h
  rfl
 obtain ⟨p,t,rs0,rt,ws,secs,rfl,hp,ht,S,hrt,hrs,hws,q⟩:=h
 refine ⟨_,(z_d (z_p (i:=2) sc_sections_of.nd rfl (Or.inl rfl) (y_u z_b))
  (z_d (z_p (i:=3) sc_sections_of.nd rfl (Or.inl rfl) z_f)
  (z_d (x_j PassesOwn.never rfl (w_b (pv 1)) (y_g (i:=4) sc_sections_of.nd rfl (Or.inl rfl))
    (z_d (z_p (i:=5) sc_sections_of.nd rfl (Or.inl rfl) (pv 3))
  (z_d (q_z PassesOwn.never (PW.pt (r_g (z_o op_lt (pv 3) (z_i z_w rfl T.len PySem.boot_len (z_a (pv 0) z_b)) (nomark _)) (r_h (z_o y_q (z_j z_v (z_j z_v (pv 0) (pv 3) (fun _ _=>rfl)) z_f (fun _ _=>rfl)) (pv 4) (nomark _)))))
    (z_g (z_p (i:=3) sc_sections_of.nd rfl (Or.inl rfl) (z_u y_w (pv 3) z_f))))
  (z_g (y_z (w_t PySem.F.plainAttrs_list PySem.F.slot_list_append PySem.F.type_list_append x_e (pv 2) (z_a (y_s u_v (pv 0) (y_p (pv 5)) (y_p (pv 3))) z_b)))))))
  (z_g (z_l (z_u u_h (pv 2) (y_u (z_a (y_s u_v (pv 0) (y_p (pv 3)) w_d) z_b)))))))),?_⟩
 generalize hrr:rs0++rt=rs at hp hrs
 refine ⟨zl0,fun z hz=>?_⟩
 have s0:=z_e hz (.lst [])
 refine ⟨_,rfl,t,rfl,⟨_,SqT.of (s0 _ _ ht)⟩,v_m (xs:=sV ws) (fun i σ H'=>∃ (x y:Option V) (ps:List Addr),σ=[some (.ref p),some (.ref t),some (.ref z),some (.int (((secs.take i).flatten.length:Nat):Int)),x,y]/\Same H H'/\H' z=some (.lst (ps.map V.ref))/\Paired (fun a (sec:List Addr)=>a≠z/\H' a=some (.lst (sec.map V.ref))) ps (secs.take i)) ⟨_,_,[],rfl,s0,z_c,.nil⟩ ?_ ?_ ?_⟩
 ·rintro i σ H' _ ⟨_,_,_,_,s,_⟩
  exact SqT.of (s _ _ ht)
 ·rintro i v σ H' hv ⟨x,y,ps,rfl,s,fz,pr⟩
  obtain ⟨w,hw,rfl⟩:∃ w,ws[i]? = some w/\V.str w=v:=by
   unfold sV at hv
   rw [List.getElem?_map] at hv
   exact Option.map_eq_some_iff.mp hv
  have hi:i<secs.length:=by rw [S.len];exact (List.getElem?_eq_some_iff.mp hw).1
  have hsec:secs[i]? = some secs[i]:=List.getElem?_eq_getElem hi
  generalize secs[i]=sec at hsec
  have S':=S.same s
  have hfl:=flat_at hsec
  rw [S.flat] at hfl
  replace hfl:rs=(secs.take i).flatten++sec++((secs.drop (i+1)).flatten++rt):=by rw [<-hrr,hfl];simp
  have htk:=j_d hsec
  have hlen:rs.length=(secs.take i).flatten.length+sec.length+((secs.drop (i+1)).flatten++rt).length:=by rw [hfl,List.length_append,List.length_append]
  generalize hn:(secs.take i).flatten.length=n at hlen ⊢
  have hp':=s _ _ hp
  refine ⟨_,rfl,?_⟩
  refine while_by (fun σ H2=>∃ k:Nat,σ=[some (.ref p),some (.ref t),some (.ref z),some (.int ((n+k:Nat):Int)),some (.str w),some (.int (n:Int))]/\H'=H2/\k<=sec.length) (fun σ H2=>match σ with | [_,_,_,some (.int j),_,_]=>300-j.toNat | _=>0) ⟨0,rfl,rfl,Nat.zero_le _⟩ ?_ ?_
  ·rintro σ H2 ⟨k,rfl,rfl,hk⟩
   refine ⟨_,rfl,_,rfl,_,_,rfl,.inl ⟨_,SqL.of hp',rfl⟩,_,_,rfl,rfl,_,rfl,?_⟩
   by_cases c1:n+k<rs.length
   ·have hr1:rs[n+k]? = some rs[n+k]:=List.getElem?_eq_getElem c1
    have hat:atI (rs.map V.ref) ((n+k:Nat):Int)=some (.ref rs[n+k]):=z_t (by rw [List.getElem?_map,hr1];rfl)
    refine y_b (decide_eq_true (by rw [List.length_map];lia)) ?_
    by_cases c2:k<sec.length
    ·have hmem:rs[n+k]∈sec:=by
      have e:rs[n+k]? = sec[k]? := by
       rw [hfl,List.append_assoc,List.getElem?_append_right (by lia),hn,List.getElem?_append_left (by lia)]
       congr 1
       lia
      rw [hr1] at e
      exact List.mem_of_getElem? e.symm
     obtain ⟨tl,htl⟩:=S'.head i sec w hsec hw _ hmem
     refine ⟨_,rfl,_,rfl,p,_,_,_,rfl,rfl,SqL.of hp',hat,_,_,_,_,rfl,rfl,SqL.of htl,(show atI (V.str w::tl) 0=some (V.str w) from k_o),_,rfl,rfl,_,rfl,?_⟩
     refine y_b (decide_eq_true rfl) ⟨_,rfl,_,_,rfl,rfl,⟨k+1,?_,rfl,c2⟩,?_⟩
     ·dsimp only
      rw [show ((n+k:Nat):Int)+1=((n+(k+1):Nat):Int) by lia]
      rfl
     ·show 300-(((n+k:Nat):Int)+1).toNat<300-((n+k:Nat):Int).toNat
      lia
    ·have hmem:rs[n+k]∈((secs.drop (i+1)).flatten++rt):=by
      have e:rs[n+k]? = (((secs.drop (i+1)).flatten++rt))[n+k-(n+sec.length)]? := by
       rw [hfl,List.getElem?_append_right (by rw [List.length_append];lia),List.length_append,hn]
      rw [hr1] at e
      exact List.mem_of_getElem? e.symm
     obtain ⟨u,tl,hne,htl⟩:∃ u tl,u≠w/\H' rs[n+k]=some (.lst (.str u::tl)):=by
      rcases List.mem_append.mp hmem with h | h
      ·exact S'.behind hw h
      ·obtain ⟨u,tl,h1,h2⟩:=hrt _ h
       exact ⟨u,tl,(fun e=>h1 (e▸List.mem_of_getElem? hw)),s _ _ h2⟩
     refine ⟨_,rfl,_,rfl,p,_,_,_,rfl,rfl,SqL.of hp',hat,_,_,_,_,rfl,rfl,SqL.of htl,(show atI (V.str u::tl) 0=some (V.str u) from k_o),_,rfl,rfl,_,rfl,?_⟩
     refine z_s (decide_eq_false fun z=>hne (by injection z)) ?_
     have hk':k=sec.length:=by lia
     subst hk'
     refine ⟨_,rfl,.inl ⟨rfl,_,SqL.of fz⟩,_,rfl,_,rfl,_,rfl,_,rfl,_,rfl,p,_,rfl,SqL.of hp',fun a ha=>?_⟩
     have ecut:cutV (rs.map V.ref) (some (n:Int)) (some ((n+sec.length:Nat):Int))=sec.map V.ref:=by
      rw [n_a (by lia) (by rw [List.length_map];lia),<-List.map_drop,<-List.map_take]
      congr 1
      rw [hfl,List.append_assoc,<-hn,List.drop_left,show (secs.take i).flatten.length+sec.length-(secs.take i).flatten.length=sec.length by lia,List.take_left]
     rw [ecut]
     have hza:z≠a:=fun e=>by rw [<-e,fz] at ha;cases ha
     have s2:=z_e ha (.lst (sec.map V.ref))
     refine ⟨z,_,_,rfl,rfl,s2 _ _ fz,y_j (by rw [List.length_map,Paired.length pr,List.length_take];have:=S.len;lia),?_⟩
     have s3:Same H (upd (upd H' a (.lst (sec.map V.ref))) z (.lst (ps.map V.ref++[.ref a]))):=x_y (s.trans s2) hz _
     refine ⟨some (.str w),some (.int (n:Int)),ps++[a],?_,s3,by rw [z_c,List.map_append];rfl,?_⟩
     ·rw [htk,List.length_append,hn]
     ·rw [List.take_add_one,hsec]
      refine x_o ⟨Ne.symm hza,by rw [y_a (Ne.symm hza),z_c]⟩ (y_l (fun r v y=>⟨y.1,by rw [y_a y.1];exact s2 _ _ y.2⟩) pr)
   ·refine z_s (decide_eq_false (by rw [List.length_map];lia)) ?_
    have hk':k=sec.length:=by lia
    subst hk'
    refine ⟨_,rfl,.inl ⟨rfl,_,SqL.of fz⟩,_,rfl,_,rfl,_,rfl,_,rfl,_,rfl,p,_,rfl,SqL.of hp',fun a ha=>?_⟩
    have ecut:cutV (rs.map V.ref) (some (n:Int)) (some ((n+sec.length:Nat):Int))=sec.map V.ref:=by
     rw [n_a (by lia) (by rw [List.length_map];lia),<-List.map_drop,<-List.map_take]
     congr 1
     rw [hfl,List.append_assoc,<-hn,List.drop_left,show (secs.take i).flatten.length+sec.length-(secs.take i).flatten.length=sec.length by lia,List.take_left]
    rw [ecut]
    have hza:z≠a:=fun e=>by rw [<-e,fz] at ha;cases ha
    have s2:=z_e ha (.lst (sec.map V.ref))
    refine ⟨z,_,_,rfl,rfl,s2 _ _ fz,y_j (by rw [List.length_map,Paired.length pr,List.length_take];have:=S.len;lia),?_⟩
    have s3:Same H (upd (upd H' a (.lst (sec.map V.ref))) z (.lst (ps.map V.ref++[.ref a]))):=x_y (s.trans s2) hz _
    refine ⟨some (.str w),some (.int (n:Int)),ps++[a],?_,s3,by rw [z_c,List.map_append];rfl,?_⟩
    ·rw [htk,List.length_append,hn]
    ·rw [List.take_add_one,hsec]
     refine x_o ⟨Ne.symm hza,by rw [y_a (Ne.symm hza),z_c]⟩ (y_l (fun r v y=>⟨y.1,by rw [y_a y.1];exact s2 _ _ y.2⟩) pr)
  ·rintro σ H2 Q1 Q2 m ⟨x1,e1,x2,e2,x3,n3,e3,l3,i,j,e4,e5,k,e6,c⟩
   refine ⟨x1,e1,x2,e2,x3,n3,e3,l3,i,j,e4,e5,k,e6,?_⟩
   cases k with
   | true =>
    rw [if_pos rfl] at c ⊢
    obtain ⟨y1,f1,y2,f2,p1,xs1,i1,z1,f3,f4,sq1,f5,p2,xs2,i2,z2,f6,f7,sq2,f8,y3,f9,sc,b,f10,c⟩:=c
    exact ⟨y1,f1,y2,f2,p1,xs1,i1,z1,f3,f4,sq1,f5,p2,xs2,i2,z2,f6,f7,sq2,f8,y3,f9,sc,b,f10,m _ _ c⟩
   | false =>
    rw [if_neg Bool.false_ne_true] at c ⊢
    exact m _ _ c
 ·rintro σ H' ⟨x,y,ps,rfl,s,fz,pr⟩
  rw [z_z,<-S.len,List.take_length] at pr
  rw [z_z,<-S.len,List.take_length,S.flat]
  refine ⟨_,rfl,_,rfl,_,rfl,_,rfl,p,_,rfl,SqL.of (s _ _ hp),fun e he=>?_⟩
  have ec:cutV (rs.map V.ref) (some (rs0.length:Nat)) none=rt.map V.ref:=by
   rw [s_e (by rw [List.length_map,<-hrr,List.length_append];lia),<-hrr,List.map_append]
   conv=>lhs;arg 1;rw [<-List.length_map (f:=V.ref) (as:=rs0)]
   exact List.drop_left
  rw [ec]
  have s1:=z_e he (.lst (rt.map V.ref))
  refine ⟨zl1,fun a ha=>?_⟩
  have s2:=s1.trans (z_e ha (.lst [.ref e]))
  refine ⟨z,a,_,_,rfl,rfl,s2 _ _ fz,z_c,small (by rw [List.length_map,Paired.length pr];have:=S.len;simp;lia),fun l hl=>?_⟩
  have s3:=s2.trans (z_e hl (.lst (ps.map V.ref++[.ref e])))
  refine q l ps e _ ((s.trans s2).free hl) (s.trans s3) (by rw [z_c,List.map_append];rfl) (y_l (fun r v y=>s3 _ _ y.2) pr) ?_
  exact ((z_e ha (.lst [.ref e])).trans (z_e hl _)) _ _ z_c
theorem r_d(T:Tx w K mg A):FnOk P w K mg base CX0 1 A.a_words_behind A.d_words_behind ["row", "many"] w_a:=by
 refine T.F_words_behind.ok r_p (fun vs H Q E h=>?_) (fun cdv A' outer s H vs Q E hr h=>?_)
 ·obtain ⟨r,w,ws,rfl,hr0,q⟩:=h
  rfl
 obtain ⟨r,w,ws,rfl,hr0,q⟩:=h
 refine ⟨_,(z_d (y_d (z_o n_j (z_i z_w rfl T.len PySem.boot_len (z_a (pv 0) z_b)) (z_u y_w z_f (pv 1)) (nomark _)) (z_g x_t) z_q)
  (z_g (z_l (y_s u_v (pv 0) (y_p z_f) w_d)))),?_⟩
 refine ⟨_,rfl,_,_,rfl,.inl ⟨_,SqL.of hr0,rfl⟩,_,rfl,_,_,rfl,rfl,rfl,_,rfl,?_⟩
 refine z_s ?_ ?_
 ·rw [z_z,List.length_cons,decide_eq_true (congrArg V.int (by lia))]
  rfl
 refine ⟨_,rfl,_,rfl,r,_,rfl,SqL.of hr0,fun p hp=>?_⟩
 have e:cutV (sV (w::ws)) (some (1:Int)) none=sV ws:=n_x (n:=1) (by rw [z_z,List.length_cons];lia)
 rw [e]
 exact q p hp
theorem o_e(T:Tx w K mg A)(G_words_behind:FnOk P w K mg base CX0 1 A.a_words_behind A.d_words_behind ["row", "many"] w_a)(G_number_of:FnOk P w K mg base CX0 2 A.a_number_of A.d_number_of ["word"] w_s):FnOk P w K mg base CX0 3 A.a_read_port A.d_read_port ["row"] l_g:=by
 refine T.F_read_port.ok sc_read_port (fun vs H Q E h=>?_) (fun cdv A' outer s H vs Q E hr h=>?_)
 ·obtain ⟨r,w,x,k,rfl,hr0,hk,q⟩:=h
  rfl
 obtain ⟨r,w,x,k,rfl,hr0,hk,q⟩:=h
 refine ⟨_,(z_d (z_p (i:=1) sc_read_port.nd rfl (Or.inl rfl) (z_h G_words_behind (hr.mono (by first | decide | lia)) rfl T.M_words_behind T.F_words_behind.kp T.B_words_behind .nil pass0 (z_a (pv 0) (z_a z_f z_b))))
  (z_g (z_l (y_k (z_a (z_j z_v (pv 1) z_f (fun _ _=>rfl)) (z_a (z_h G_number_of (hr.mono (by first | decide | lia)) rfl T.M_number_of T.F_number_of.kp T.B_number_of .nil pass0 (z_a (z_j z_v (pv 1) z_f (fun _ _=>rfl)) z_b)) z_b)))))),?_⟩
 refine ⟨_,rfl,r,w,[x,nw k],rfl,hr0,fun p1 hp1=>?_⟩
 have t1:=z_e hp1 (.lst (sV [x,nw k]))
 have f1:=z_c (H:=H) (a:=p1) (o:=.lst (sV [x,nw k]))
 dsimp only [gName]
 generalize upd H p1 (.lst (sV [x,nw k]))=H1 at t1 f1 ⊢
 exact ⟨_,rfl,p1,_,_,_,rfl,rfl,SqL.of f1,rfl,_,rfl,p1,_,_,_,rfl,rfl,SqL.of f1,rfl,k,rfl,hk,fun H2 s2=>⟨zl2,fun t ht=>q t _ (t1.trans (s2.trans (z_e ht _))) z_c⟩⟩
theorem q_t(T:Tx w K mg A)(G_numbers_of:FnOk P w K mg base CX0 3 A.a_numbers_of A.d_numbers_of ["words"] s_b):FnOk P w K mg base CX0 4 A.a_numbers_at A.d_numbers_at ["words", "start", "behind"] l_c:=by
 refine T.F_numbers_at.ok p_c (fun vs H Q E h=>?_) (fun cdv A' outer s H vs Q E hr h=>?_)
 ·obtain ⟨l,pre,post,ns,rfl,hl,hn,h20,q⟩:=h
  rfl
 obtain ⟨l,pre,post,ns,rfl,hl,hn,h20,q⟩:=h
 refine ⟨_,(z_d (y_d (z_o o_f (pv 2) (z_i z_w rfl T.len PySem.boot_len (z_a (pv 0) z_b)) (nomark _)) (z_g x_t) z_q)
  (z_g (z_l (z_h G_numbers_of (hr.mono (by first | decide | lia)) rfl T.M_numbers_of T.F_numbers_of.kp T.B_numbers_of .nil pass0 (z_a (y_s u_v (pv 0) (y_p (pv 1)) (y_p (pv 2))) z_b))))),?_⟩
 have hlen:(sV (pre++ns.map nw++post)).length=pre.length+ns.length+post.length:=by rw [z_z,List.length_append,List.length_append,List.length_map]
 refine ⟨_,rfl,_,rfl,_,_,rfl,.inl ⟨_,SqL.of hl,rfl⟩,_,_,rfl,rfl,_,rfl,z_s (decide_eq_false (by rw [hlen];lia)) ?_⟩
 refine ⟨_,rfl,_,rfl,_,rfl,_,rfl,_,rfl,l,_,rfl,SqL.of hl,fun p1 hp1=>?_⟩
 have ecut:cutV (sV (pre++ns.map nw++post)) (some (pre.length:Int)) (some ((pre.length+ns.length:Nat):Int))=sV (ns.map nw):=by
  rw [n_a (by lia) (by rw [hlen];lia)]
  unfold sV
  rw [List.map_append,List.map_append,List.append_assoc]
  have e:(pre.map V.str++((ns.map nw).map V.str++post.map V.str)).drop pre.length=(ns.map nw).map V.str++post.map V.str:=by
   conv=>lhs;arg 1;rw [<-List.length_map (f:=V.str) (as:=pre)]
   exact List.drop_left
  rw [e,show pre.length+ns.length-pre.length=((ns.map nw).map V.str).length by rw [List.length_map,List.length_map];lia,List.take_left]
 rw [ecut]
 exact ⟨p1,ns,rfl,z_c,hn,h20,fun t H' _ s' f'=>q t H' ((z_e hp1 _).trans s') f'⟩
theorem q_v(T:Tx w K mg A)(G_numbers_at:FnOk P w K mg base CX0 4 A.a_numbers_at A.d_numbers_at ["words", "start", "behind"] l_c):FnOk P w K mg base CX0 5 A.a_read_front A.d_read_front ["words", "place"] p_g:=by
 refine T.F_read_front.ok sc_read_front (fun vs H Q E h=>?_) (fun cdv A' outer s H vs Q E hr h=>?_)
 ·obtain ⟨l,pre,post,fr,z,ds,rfl,hl,hf,q⟩:=h
  rfl
 obtain ⟨l,pre,post,fr,z,ds,rfl,hl,hf,q⟩:=h
 obtain ⟨kvs,D_FORMS,hkeys,hkvs⟩:=T.D_FORMS
 refine ⟨_,(z_d (z_p (i:=2) sc_read_front.nd rfl (Or.inl rfl) (z_j z_v (pv 0) (pv 1) (fun _ _=>rfl)))
  (z_d (y_d (z_o v_t (pv 2) (y_k (z_a z_k (z_a z_k z_b))) rfl) (z_g x_t) z_q)
  (z_d (y_d (z_o n_j (pv 2) z_k (nomark _)) (z_d (z_p (i:=3) sc_read_front.nd rfl (Or.inl rfl) (z_u y_w (pv 1) (z_j z_n (z_j (p_u D_FORMS) (y_y (v:=.ref A.a_FORMS) rfl T.g_FORMS rfl) (pv 2) (fun _ _=>rfl)) z_f (fun _ _=>rfl))))
  (z_g (z_l (y_k (z_a (z_u v_o (y_k (z_a (pv 2) z_b)) (z_h G_numbers_at (hr.mono (by first | decide | lia)) rfl T.M_numbers_at T.F_numbers_at.kp T.B_numbers_at .nil pass0 (z_a (pv 0) (z_a (z_u y_w (pv 1) z_f) (z_a (pv 3) z_b))))) (z_a (pv 3) z_b)))))) z_q)
  (z_d (z_p (i:=4) sc_read_front.nd rfl (Or.inl rfl) (z_u y_w (pv 1) z_f))
  (z_d (z_p (i:=5) sc_read_front.nd rfl (Or.inl rfl) (z_h G_numbers_at (hr.mono (by first | decide | lia)) rfl T.M_numbers_at T.F_numbers_at.kp T.B_numbers_at .nil pass0 (z_a (pv 0) (z_a (z_u y_w (pv 1) z_f) (z_a (pv 4) z_b)))))
  (z_g (z_l (y_k (z_a (y_k (z_a (pv 2) (z_a (z_j z_n (pv 5) z_f (fun _ _=>rfl)) (z_a (z_h G_numbers_at (hr.mono (by first | decide | lia)) rfl T.M_numbers_at T.F_numbers_at.kp T.B_numbers_at .nil pass0 (z_a (pv 0) (z_a (pv 4) (z_a (z_u y_w (pv 4) (z_j z_n (pv 5) z_f (fun _ _=>rfl))) z_b)))) z_b)))) (z_a (z_u y_w (pv 4) (z_j z_n (pv 5) z_f (fun _ _=>rfl))) z_b)))))))))),?_⟩
 have hat:∀ {rest:List Str},fr=z::rest->atI (sV (pre++fr++post)) (pre.length:Int)=some (.str z):=fun e=>by
  refine z_t ?_
  unfold sV
  rw [e,List.getElem?_map,List.append_assoc,List.getElem?_append_right (Nat.le_refl _),Nat.sub_self]
  rfl
 cases hf with
 | @node z ns hz c1 c2 c3 hk hns =>
  refine ⟨_,rfl,_,rfl,l,_,_,_,rfl,rfl,SqL.of hl,hat rfl,?_⟩
  dsimp only [gName]
  refine ⟨_,rfl,zl2,fun pt ht=>?_⟩
  have t0:=z_e ht (.tup [.str "wire",.str "number"])
  refine ⟨pt,_,rfl,.inr (SqT.of z_c),rfl,rfl,_,rfl,z_s ?_ ?_⟩
  ·show inV _ _=false
   unfold inV
   simp [eqV,Ne.symm c1,Ne.symm c2]
  generalize upd H pt (.tup [.str "wire",.str "number"])=H0 at t0 ⊢
  obtain ⟨pf,hlk,hpf⟩:=hkvs z hz
  refine ⟨_,rfl,rfl,_,rfl,y_b (by rw [decide_eq_false (fun h=>c3 (by injection h))];rfl) ?_⟩
  refine ⟨_,rfl,_,rfl,_,_,rfl,rfl,hlk,pf,_,_,_,rfl,rfl,hpf H0,rfl,_,_,rfl,rfl,?_⟩
  dsimp only [gName]
  refine ⟨_,rfl,zl1,fun p1 hp1=>?_⟩
  have t1:=t0.trans (z_e hp1 (.tup [.str z]))
  have f1:=z_c (H:=H0) (a:=p1) (o:=.tup [.str z])
  generalize upd H0 p1 (.tup [.str z])=H1 at t1 f1 ⊢
  have hl1:H1 l=some (.lst (sV ((pre++[z])++ns.map nw++post))):=by
   have:=t1 _ _ hl
   rw [this]
   simp
  refine ⟨_,rfl,_,rfl,_,_,rfl,rfl,_,rfl,l,pre++[z],post,ns,?_,hl1,fun n hn=>by have:=hns n hn;lia,by have:=u_k z;lia,fun p2 H2 s2 f2=>?_⟩
  ·dsimp only
   rw [List.length_append]
   have e1:(pre.length:Int)+1=((pre.length+[z].length:Nat):Int):=by simp
   have e2:(pre.length:Int)+((formK z:Nat):Int)=((pre.length+[z].length+ns.length:Nat):Int):=by simp;lia
   rw [e1,e2]
   rfl
  refine ⟨p1,p2,_,_,rfl,rfl,s2 _ _ f1,f2,small (by rw [u_m];show 1+ns.length<=_;have:=u_k z;lia),fun p3 H3 s3 f3=>⟨_,rfl,zl2,fun t ht'=>?_⟩⟩
  have t4:=z_e ht' (.tup [.ref p3,.int ((pre.length:Int)+((formK z:Nat):Int))])
  refine q t (.ref p3) _ (((t1.trans s2).trans s3).trans t4) ?_ (.tup (t4 _ _ f3) (.cons (.str _) ?_))
  ·rw [z_c]
   congr 5
   simp
   lia
  ·exact datsN' ns
 | @table w ns w1 w8 l1 l16 hns =>
  refine ⟨_,rfl,_,rfl,l,_,_,_,rfl,rfl,SqL.of hl,hat rfl,?_⟩
  dsimp only [gName]
  refine ⟨_,rfl,zl2,fun pt ht=>?_⟩
  have t0:=z_e ht (.tup [.str "wire",.str "number"])
  refine ⟨pt,_,rfl,.inr (SqT.of z_c),rfl,rfl,_,rfl,z_s (by decide) ?_⟩
  generalize upd H pt (.tup [.str "wire",.str "number"])=H0 at t0 ⊢
  refine ⟨_,rfl,rfl,_,rfl,z_s (by decide) ?_⟩
  refine ⟨_,rfl,_,_,rfl,rfl,?_⟩
  dsimp only [gName]
  have hl1:H0 l=some (.lst (sV ((pre++(["table"]:List Str))++[w,ns.length].map nw++(ns.map nw++post)))):=by
   rw [t0 _ _ hl]
   simp
  refine ⟨_,rfl,_,rfl,_,_,rfl,rfl,_,rfl,l,pre++(["table"]:List Str),ns.map nw++post,[w,ns.length],?_,hl1,fun n hn=>by simp at hn;lia,by show 2<=20;decide,fun p2 H2 s2 f2=>?_⟩
  ·rw [List.length_append]
   rfl
  have t2:=t0.trans s2
  have hl2:H2 l=some (.lst (sV ((pre++(["table",nw w,nw ns.length]:List Str))++ns.map nw++post))):=by
   rw [t2 _ _ hl]
   simp
  refine ⟨_,rfl,_,rfl,p2,_,_,_,rfl,rfl,SqT.of f2,rfl,_,rfl,_,rfl,_,rfl,_,rfl,p2,_,_,_,rfl,rfl,SqT.of f2,rfl,_,_,rfl,rfl,l,pre++(["table",nw w,nw ns.length]:List Str),post,ns,?_,hl2,fun n hn=>by have:=hns n hn;lia,by lia,fun p3 H3 s3 f3=>?_⟩
  ·rw [List.length_append]
   rfl
  have t3:=t2.trans s3
  refine ⟨zl3,fun p4 hp4=>?_⟩
  have t4:=z_e hp4 (.tup [.str "table",.int (w:Int),.ref p3])
  have f4:=z_c (H:=H3) (a:=p4) (o:=.tup [.str "table",.int (w:Int),.ref p3])
  have f34:=t4 _ _ f3
  have f24:=t4 _ _ (s3 _ _ f2)
  generalize upd H3 p4 (.tup [.str "table",.int (w:Int),.ref p3])=H4 at t4 f4 f34 f24 ⊢
  refine ⟨_,rfl,_,rfl,p2,_,_,_,rfl,rfl,SqT.of f24,rfl,_,_,rfl,rfl,zl2,fun t ht'=>?_⟩
  have t5:=z_e ht' (.tup [.ref p4,.int ((pre.length:Int)+3+((ns.length:Nat):Int))])
  refine q t (.ref p4) _ ((t3.trans t4).trans t5) ?_ (.tup (t5 _ _ f4) (.cons (.str _) (.cons (.int _) (.cons (.tup (t5 _ _ f34) (datsN' ns)) .nil))))
  rw [z_c]
  congr 5
  simp
  lia
theorem o_b(T:Tx w K mg A)(G_number_of:FnOk P w K mg base CX0 2 A.a_number_of A.d_number_of ["word"] w_s):FnOk P w K mg base CX0 3 A.a_read_leaf A.d_read_leaf ["word"] n_q:=by
 refine T.F_read_leaf.ok sc_read_leaf (fun vs H Q E h=>?_) (fun cdv A' outer s H vs Q E hr h=>?_)
 ·obtain ⟨d,w,rfl,lf,q⟩:=h
  rfl
 obtain ⟨d,w,rfl,lf,q⟩:=h
 refine ⟨_,(z_d (y_d (z_o o_g z_k (pv 0) rfl) (z_g (z_l (y_k (z_a z_k (z_a (pv 0) z_b))))) z_q)
  (z_d (z_p (i:=1) sc_read_leaf.nd rfl (Or.inl rfl) (w_t PySem.F.plainAttrs_str PySem.F.slot_str_find PySem.F.type_str_find mt_find (pv 0) (z_a z_k z_b)))
  (z_g (z_l (y_k (z_a z_k (z_a (z_h G_number_of (hr.mono (by first | decide | lia)) rfl T.M_number_of T.F_number_of.kp T.B_number_of .nil pass0 (z_a (y_s sl_str (pv 0) w_d (y_p (pv 1))) z_b)) (z_a (z_h G_number_of (hr.mono (by first | decide | lia)) rfl T.M_number_of T.F_number_of.kp T.B_number_of .nil pass0 (z_a (y_s sl_str (pv 0) (y_p (z_u y_w (pv 1) z_f)) w_d) z_b)) z_b)))))))),?_⟩
 cases lf with
 | wire hx =>
  refine ⟨_,rfl,_,_,rfl,rfl,_,rfl,y_b ?_ ⟨_,rfl,zl2,fun t ht=>q _ _ (z_e ht _) (.tup z_c (.cons (.str _) (.cons (.str _) .nil)))⟩⟩
  rw [n_v,decide_eq_false (fun h=>by have:=hx.let h;lia)]
  rfl
 | @num a b ha b1 b8 =>
  have na:=w_i (n:=a) (by lia)
  have nb:=w_i (n:=b) (by lia)
  have hw:(nw a ++ ":" ++ nw b).length<=sizeLine:=small (by rw [PySem.Str.length_append,PySem.Str.length_append];show (nw a).length+1+(nw b).length<=_;lia)
  have h58:58∉(nw a).cps.toList:=fun h=>by have:=t_l h;lia
  refine ⟨_,rfl,_,_,rfl,rfl,_,rfl,z_s ?_ ?_⟩
  ·rw [n_v,s_d,decide_eq_true (by simp)]
   rfl
  refine ⟨_,rfl,rfl,_,_,rfl,rfl,?_⟩
  dsimp only [gName]
  rw [j_e h58]
  refine ⟨_,rfl,_,rfl,_,rfl,_,rfl,hw,a,(by rw [sl_to];rfl),by lia,fun H1 s1=>?_⟩
  refine ⟨_,rfl,_,rfl,_,_,rfl,rfl,_,rfl,_,rfl,hw,b,(by rw [sl_fr];rfl),by lia,fun H2 s2=>⟨zl3,fun t ht=>?_⟩⟩
  exact q _ _ ((s1.trans s2).trans (z_e ht _)) (.tup z_c (.cons (.str _) (.cons (.int _) (.cons (.int _) .nil))))
theorem r_y(T:Tx w K mg A)(G_read_front:FnOk P w K mg base CX0 5 A.a_read_front A.d_read_front ["words", "place"] p_g)(G_is_word:FnOk P w K mg base CX0 1 A.a_is_word A.d_is_word ["thing"] u_c)(G_read_leaf:FnOk P w K mg base CX0 3 A.a_read_leaf A.d_read_leaf ["word"] n_q)(n:Nat)(G_read_saying:FnOk P w K mg base CX0 (n+6) A.a_read_saying A.d_read_saying ["words", "place", "deep"] (p_h n)):FnOk P w K mg base CX0 (n+7) A.a_read_saying A.d_read_saying ["words", "place", "deep"] (p_h (n+1)):=by
 refine T.F_read_saying.ok sc_read_saying (fun vs H Q E h=>?_) (fun cdv A' outer s H vs Q E hr h=>?_)
 ·obtain ⟨l,pre,post,d,deep,rfl,hdp,hl,hpc,h40,q⟩:=h
  rfl
 obtain ⟨l,pre,post,d,deep,rfl,hdp,hl,hpc,h40,q⟩:=h
 obtain ⟨kvs,D_FORMS,hkeys,hkvs⟩:=T.D_FORMS
 obtain ⟨t_MOST_DEEP_READ,g_MOST_DEEP_READ⟩:=T.g_MOST_DEEP_READ
 refine ⟨_,(z_d (y_d (PW.pt (v_i (z_o op_ge (pv 1) (z_i z_w rfl T.len PySem.boot_len (z_a (pv 0) z_b)) (nomark _)) (w_j (z_o o_f (pv 2) (y_y (v:=.int 60) rfl g_MOST_DEEP_READ ⟨_,rfl⟩) (nomark _))))) (z_g x_t) z_q)
  (z_d (y_d (x_a (y_c (z_h G_is_word (hr.mono (by first | decide | lia)) rfl T.M_is_word T.F_is_word.kp T.B_is_word .nil pass0 (z_a (z_j z_v (pv 0) (pv 1) (fun _ _=>rfl)) z_b)) (fun _=>rfl))) (z_g (z_l (y_k (z_a (z_h G_read_leaf (hr.mono (by first | decide | lia)) rfl T.M_read_leaf T.F_read_leaf.kp T.B_read_leaf .nil pass0 (z_a (z_j z_v (pv 0) (pv 1) (fun _ _=>rfl)) z_b)) (z_a (z_u y_w (pv 1) z_f) z_b))))) z_q)
  (z_d (z_p (i:=3) sc_read_saying.nd rfl (Or.inl rfl) (z_h G_read_front (hr.mono (by first | decide | lia)) rfl T.M_read_front T.F_read_front.kp T.B_read_front .nil pass0 (z_a (pv 0) (z_a (pv 1) z_b))))
  (z_d (z_p (i:=4) sc_read_saying.nd rfl (Or.inl rfl) (z_j z_n (pv 3) z_f (fun _ _=>rfl)))
  (z_d (z_p (i:=1) sc_read_saying.nd rfl (Or.inl rfl) (z_j z_n (pv 3) z_f (fun _ _=>rfl)))
  (z_d (z_p (i:=5) sc_read_saying.nd rfl (Or.inl rfl) (z_j (p_u D_FORMS) (y_y (v:=.ref A.a_FORMS) rfl T.g_FORMS rfl) (z_j z_n (pv 4) z_f (fun _ _=>rfl)) (fun _ _=>rfl)))
  (z_d (x_j PassesOwn.never rfl (y_x rfl T.range (z_a (z_u r_f (z_j z_n (pv 5) z_f (fun _ _=>rfl)) (z_j z_n (pv 5) z_f (fun _ _=>rfl))) z_b)) (y_g (i:=6) sc_read_saying.nd rfl (Or.inl rfl))
    (z_d (z_p (i:=3) sc_read_saying.nd rfl (Or.inl rfl) (z_h G_read_saying (hr.mono (by first | decide | lia)) rfl T.M_read_saying T.F_read_saying.kp T.B_read_saying .nil pass0 (z_a (pv 0) (z_a (pv 1) (z_a (z_u y_w (pv 2) z_f) z_b)))))
  (z_d (z_p (i:=4) sc_read_saying.nd rfl (Or.inl rfl) (z_u v_o (pv 4) (y_k (z_a (z_j z_n (pv 3) z_f (fun _ _=>rfl)) z_b))))
  (z_g (z_p (i:=1) sc_read_saying.nd rfl (Or.inl rfl) (z_j z_n (pv 3) z_f (fun _ _=>rfl)))))))
  (z_g (z_l (y_k (z_a (pv 4) (z_a (pv 1) z_b)))))))))))),?_⟩
 rcases s_t hpc with ⟨wd,lf,eW⟩ | ⟨z,ds,fr,L,rest,rfl,hf,hz,hds,hLn,hs,hv,eW,hfr⟩
 ·rw [eW] at hl q
  have hl':H l=some (.lst (sV (pre++wd::post))):=by rw [hl];simp
  have hlen:(sV (pre++wd::post)).length=pre.length+post.length+1:=by rw [z_z,List.length_append,List.length_cons];lia
  refine ⟨_,rfl,_,rfl,_,_,rfl,.inl ⟨_,SqL.of hl',rfl⟩,_,_,rfl,rfl,_,rfl,z_s (decide_eq_false (by rw [hlen];lia)) ?_⟩
  refine ⟨_,rfl,_,_,rfl,rfl,_,rfl,z_s (decide_eq_false (by lia)) ?_⟩
  refine ⟨_,rfl,_,rfl,l,_,_,_,rfl,rfl,SqL.of hl',k_q,_,_,rfl,.str wd,_,rfl,y_b (by show (!decide (wd∈words))=true;rw [decide_eq_false (j_o lf)];rfl) ?_⟩
  refine ⟨_,rfl,_,rfl,l,_,_,_,rfl,rfl,SqL.of hl',k_q,d,wd,rfl,lf,fun v H1 s1 hv=>⟨_,rfl,_,_,rfl,rfl,zl2,fun t ht=>q t v _ (s1.trans (z_e ht _)) ?_ (hv.same (z_e ht _))⟩⟩
  rw [z_c]
  rfl
 have hl':H l=some (.lst (sV (pre++z::(rest++L.flatMap (sayW n)++post)))):=by rw [hl,eW,hfr];simp
 have hlen:(sV (pre++z::(rest++L.flatMap (sayW n)++post))).length=pre.length+(rest++L.flatMap (sayW n)++post).length+1:=by rw [z_z,List.length_append,List.length_cons];lia
 refine ⟨_,rfl,_,rfl,_,_,rfl,.inl ⟨_,SqL.of hl',rfl⟩,_,_,rfl,rfl,_,rfl,z_s (decide_eq_false (by rw [hlen];lia)) ?_⟩
 refine ⟨_,rfl,_,_,rfl,rfl,_,rfl,z_s (decide_eq_false (by lia)) ?_⟩
 refine ⟨_,rfl,_,rfl,l,_,_,_,rfl,rfl,SqL.of hl',k_q,_,_,rfl,.str z,_,rfl,z_s (by show (!decide (z∈words))=false;rw [decide_eq_true hz];rfl) ?_⟩
 have hlf:H l=some (.lst (sV (pre++fr++(L.flatMap (sayW n)++post)))):=by rw [hl,eW];simp
 refine ⟨_,rfl,_,rfl,l,pre,L.flatMap (sayW n)++post,fr,z,ds,rfl,hlf,hf,fun t v H1 s1 ft hDv=>?_⟩
 obtain ⟨pv,xs,rfl,hpv,hxv⟩:=hDv.tupI
 obtain ⟨x0,r0,rfl,h0,hx0⟩:=hxv.consI
 cases (show x0 = .str z by unfold Dat at h0;exact h0)
 clear hxv
 have lx0:=hx0.length
 dsimp only [gName]
 refine ⟨_,rfl,t,_,_,_,rfl,rfl,SqT.of ft,rfl,?_⟩
 refine ⟨_,rfl,t,_,_,_,rfl,rfl,SqT.of ft,rfl,?_⟩
 obtain ⟨pf,hlk,hpf⟩:=hkvs z hz
 refine ⟨_,rfl,pv,_,_,_,rfl,rfl,SqT.of hpv,(show atI _ ((0:Nat):Int)=_ from z_t rfl),_,_,rfl,rfl,hlk,?_⟩
 dsimp only [gName]
 have hk3:=u_k z
 have hN4:formN z<=4:=by
  have:∀ z∈words,formN z<=4:=by decide
  exact this z hz
 have h40':∀ x∈L,pcs n x<=40:=fun x hx=>by
  have h1:=t_c (List.mem_map_of_mem (f:=pcs n) hx)
  lia
 refine ⟨_,rfl,pf,_,_,_,rfl,rfl,hpf H1,rfl,_,rfl,pf,_,_,_,rfl,rfl,hpf H1,rfl,_,_,rfl,rfl,_,rfl,by lia,by lia,x_i (lo:=0) (fun i σ J=>∃ (x3 x6:Option V) (ps:Addr) (xs:List V),σ=[some (.ref l),some (.int ((pre.length+fr.length+((L.take i).flatMap (sayW n)).length:Nat):Int)),some (.int (deep:Int)),x3,some (.ref ps),some (.ref pf),x6]/\Same H J/\J ps=some (.tup xs)/\Dats J (.str z::(ds++L.take i)) xs) ⟨_,_,pv,_,rfl,s1,hpv,by rw [List.take_zero,List.append_nil];exact .cons (.str _) hx0⟩ ?_ ?_⟩
 ·rintro i σ J hi ⟨x3,x6,ps,xs,rfl,sJ,hps,hxs⟩
  have hi':i<L.length:=by lia
  have hLi:L[i]? = some L[i]:=List.getElem?_eq_getElem hi'
  have hmem:=List.getElem_mem hi'
  generalize L[i]=x at hLi hmem
  have eL:L.flatMap (sayW n)=(L.take i).flatMap (sayW n)++sayW n x++(L.drop (i+1)).flatMap (sayW n):=by
   have h1:L=L.take i++x::L.drop (i+1):=by
    obtain ⟨hh,he⟩:=List.getElem?_eq_some_iff.mp hLi
    rw [<-he,<-List.drop_eq_getElem_cons hh,List.take_append_drop]
   conv=>lhs;rw [h1]
   rw [List.flatMap_append,List.flatMap_cons,List.append_assoc]
  have hlJ:J l=some (.lst (sV ((pre++fr++(L.take i).flatMap (sayW n))++sayW n x++((L.drop (i+1)).flatMap (sayW n)++post)))):=by
   rw [sJ _ _ hlf,eL]
   simp
  refine ⟨_,rfl,_,rfl,_,rfl,_,_,rfl,rfl,l,pre++fr++(L.take i).flatMap (sayW n),(L.drop (i+1)).flatMap (sayW n)++post,x,deep+1,?_,by lia,hlJ,hs x hmem,h40' x hmem,fun t2 v2 J2 s2 ft2 hD2=>?_⟩
  ·rw [List.length_append,List.length_append]
   rfl
  dsimp only [gName]
  refine ⟨_,rfl,_,rfl,t2,_,_,_,rfl,rfl,SqT.of ft2,rfl,zl1,fun p5 hp5=>?_⟩
  have t5:=z_e hp5 (.tup [v2])
  have f5:=z_c (H:=J2) (a:=p5) (o:=.tup [v2])
  generalize upd J2 p5 (.tup [v2])=J3 at t5 f5 ⊢
  have s23:=s2.trans t5
  have lxs:=hxs.length
  rw [List.length_cons,List.length_append,List.length_take] at lxs
  refine ⟨ps,p5,_,_,rfl,rfl,s23 _ _ hps,f5,small (by show xs.length+1<=_;lia),fun p6 J4 s4 f6=>?_⟩
  dsimp only [gName]
  refine ⟨_,rfl,t2,_,_,_,rfl,rfl,SqT.of (s4 _ _ (t5 _ _ ft2)),rfl,?_⟩
  have et:(L.take (i+1)).flatMap (sayW n)=(L.take i).flatMap (sayW n)++sayW n x:=by
   rw [y_f hLi,List.flatMap_append]
   simp
  have eN:(pre++fr++(L.take i).flatMap (sayW n)).length+(sayW n x).length=pre.length+fr.length+((L.take (i+1)).flatMap (sayW n)).length:=by rw [et,List.length_append,List.length_append,List.length_append];lia
  refine ⟨some (.ref t2),some (.int (0+(i:Int))),p6,_,?_,sJ.trans (s23.trans s4),f6,?_⟩
  ·rw [<-eN]
   rfl
  ·rw [y_f hLi,<-List.append_assoc,<-List.cons_append]
   exact ((hxs.same s23).append (.cons (hD2.same t5) .nil)).same s4
 rintro σ J ⟨x3,x6,ps,xs,rfl,sJ,hps,hxs⟩
 have eT:((formN z:Nat):Int)-((formK z:Nat):Int)=((L.length:Nat):Int):=by lia
 rw [eT,Int.toNat_natCast,List.take_length] at hxs ⊢
 refine ⟨_,rfl,_,rfl,zl2,fun t' ht'=>q t' (.ref ps) _ (sJ.trans (z_e ht' _)) ?_ (.tup (z_e ht' _ _ _ hps) (hxs.same (z_e ht' _)))⟩
 rw [z_c,eW,List.length_append]
 congr 5
 lia
theorem r_c(T:Tx w K mg A)(G_read_saying:FnOk P w K mg base CX0 12 A.a_read_saying A.d_read_saying ["words", "place", "deep"] (p_h 6)):FnOk P w K mg base CX0 13 A.a_read_sayings A.d_read_sayings ["words"] l_h:=by
 refine T.F_read_sayings.ok sc_read_sayings (fun vs H Q E h=>?_) (fun cdv A' outer s H vs Q E hr h=>?_)
 ·obtain ⟨l,ds,rfl,hl,ok,h8,q⟩:=h
  rfl
 obtain ⟨l,ds,rfl,hl,ok,h8,q⟩:=h
 refine ⟨_,(z_d (z_p (i:=1) sc_read_sayings.nd rfl (Or.inl rfl) (y_k z_b))
  (z_d (z_p (i:=2) sc_read_sayings.nd rfl (Or.inl rfl) z_f)
  (z_d (q_z PassesOwn.never (z_o op_lt (pv 2) (z_i z_w rfl T.len PySem.boot_len (z_a (pv 0) z_b)) (nomark _))
    (z_d (z_p (i:=3) sc_read_sayings.nd rfl (Or.inl rfl) (z_h G_read_saying (hr.mono (by first | decide | lia)) rfl T.M_read_saying T.F_read_saying.kp T.B_read_saying .nil pass0 (z_a (pv 0) (z_a (pv 2) (z_a z_f z_b)))))
  (z_d (z_p (i:=1) sc_read_sayings.nd rfl (Or.inl rfl) (z_u v_o (pv 1) (y_k (z_a (z_j z_n (pv 3) z_f (fun _ _=>rfl)) z_b))))
  (z_g (z_p (i:=2) sc_read_sayings.nd rfl (Or.inl rfl) (z_j z_n (pv 3) z_f (fun _ _=>rfl)))))))
  (z_g (z_l (pv 1)))))),?_⟩
 refine ⟨zl0,fun p0 hp0=>?_⟩
 have t0:=z_e hp0 (.tup [])
 dsimp only [gName]
 let WI:Nat->St->Hp->Prop:=fun m σ J=>∃ (i:Nat) (x3:Option V) (ps:Addr) (xs:List V),σ=[some (.ref l),some (.ref ps),some (.int ((((ds.take i).flatMap (sayW 6)).length:Nat):Int)),x3]/\m+i=ds.length/\Same H J/\J ps=some (.tup xs)/\Dats J (ds.take i) xs
 refine ⟨WI,⟨ds.length,0,_,p0,[],rfl,rfl,t0,z_c,.nil⟩,?_⟩
 rintro m σ J ⟨i,x3,ps,xs,rfl,hm,sJ,hps,hxs⟩
 have hlJ:=sJ _ _ hl
 refine ⟨_,rfl,_,rfl,_,_,rfl,.inl ⟨_,SqL.of hlJ,rfl⟩,_,_,rfl,rfl,_,rfl,?_⟩
 rw [z_z]
 by_cases c:i<ds.length
 case neg =>
  have ei:i=ds.length:=by lia
  subst ei
  rw [List.take_length] at hxs
  refine z_s (decide_eq_false (by rw [List.take_length];lia)) ⟨_,rfl,q ps xs J sJ hps hxs⟩
 have hdi:ds[i]? = some ds[i]:=List.getElem?_eq_getElem c
 have okd:=ok _ (List.getElem_mem c)
 generalize ds[i]=d at hdi okd
 have eL:ds.flatMap (sayW 6)=(ds.take i).flatMap (sayW 6)++sayW 6 d++(ds.drop (i+1)).flatMap (sayW 6):=by
  have h1:ds=ds.take i++d::ds.drop (i+1):=by
   obtain ⟨hh,he⟩:=List.getElem?_eq_some_iff.mp hdi
   rw [<-he,<-List.drop_eq_getElem_cons hh,List.take_append_drop]
  conv=>lhs;rw [h1]
  rw [List.flatMap_append,List.flatMap_cons,List.append_assoc]
 have hpos:=t_a okd.pcs.1
 refine y_b (decide_eq_true (by rw [eL,List.length_append,List.length_append];lia)) ⟨fun σ' J'=>∃ m',m'<m/\WI m' σ' J',fun _ _ h=>h,?_⟩
 rw [eL] at hlJ
 refine ⟨_,rfl,_,rfl,l,(ds.take i).flatMap (sayW 6),(ds.drop (i+1)).flatMap (sayW 6),d,1,rfl,by decide,hlJ,okd.pcs.1,okd.pcs.2,fun t2 v2 J2 s2 ft2 hD2=>?_⟩
 dsimp only [gName]
 refine ⟨_,rfl,_,rfl,t2,_,_,_,rfl,rfl,SqT.of ft2,rfl,zl1,fun p5 hp5=>?_⟩
 have t5:=z_e hp5 (.tup [v2])
 have f5:=z_c (H:=J2) (a:=p5) (o:=.tup [v2])
 generalize upd J2 p5 (.tup [v2])=J3 at t5 f5 ⊢
 have s23:=s2.trans t5
 have lxs:=hxs.length
 rw [List.length_take] at lxs
 refine ⟨ps,p5,_,_,rfl,rfl,s23 _ _ hps,f5,small (by show xs.length+1<=_;lia),fun p6 J4 s4 f6=>?_⟩
 dsimp only [gName]
 refine ⟨_,rfl,t2,_,_,_,rfl,rfl,SqT.of (s4 _ _ (t5 _ _ ft2)),rfl,?_⟩
 have et:(ds.take (i+1)).flatMap (sayW 6)=(ds.take i).flatMap (sayW 6)++sayW 6 d:=by
  rw [y_f hdi,List.flatMap_append]
  simp
 refine ⟨m-1,by lia,i+1,some (.ref t2),p6,_,?_,by lia,sJ.trans (s23.trans s4),f6,?_⟩
 ·rw [et,List.length_append]
  rfl
 ·rw [y_f hdi]
  exact ((hxs.same s23).append (.cons (hD2.same t5) .nil)).same s4
theorem n_h(T:Tx w K mg A)(G_read_sayings:FnOk P w K mg base CX0 13 A.a_read_sayings A.d_read_sayings ["words"] l_h)(G_number_of:FnOk P w K mg base CX0 2 A.a_number_of A.d_number_of ["word"] w_s):FnOk P w K mg base CX0 14 A.a_read_row A.d_read_row ["row"] i_t:=by
 refine T.F_read_row.ok sc_read_row (fun vs H Q E h=>?_) (fun cdv A' outer s H vs Q E hr h=>?_)
 ·obtain ⟨l,r,rfl,ok,hl,q⟩:=h
  rfl
 obtain ⟨l,r,rfl,ok,hl,q⟩:=h
 refine ⟨_,(z_d (y_d (z_o s_m z_k (pv 0) rfl) (z_g x_t) z_q)
  (z_d (z_p (i:=1) sc_read_row.nd rfl (Or.inl rfl) (w_t PySem.F.plainAttrs_list PySem.F.slot_list_index PySem.F.type_list_index j_q (pv 0) (z_a z_k z_b)))
  (z_d (z_p (i:=2) sc_read_row.nd rfl (Or.inl rfl) (y_s u_v (pv 0) w_d (y_p (pv 1))))
  (z_d (z_p (i:=3) sc_read_row.nd rfl (Or.inl rfl) (z_h G_read_sayings (hr.mono (by first | decide | lia)) rfl T.M_read_sayings T.F_read_sayings.kp T.B_read_sayings .nil pass0 (z_a (y_s u_v (pv 0) (y_p (z_u y_w (pv 1) z_f)) w_d) z_b)))
  (z_d (y_d (PW.pt (r_g (z_o y_q (z_j z_v (pv 0) z_f (fun _ _=>rfl)) z_k (nomark _)) (r_g (z_o y_q (z_i z_w rfl T.len PySem.boot_len (z_a (pv 2) z_b)) z_f (nomark _)) (r_h (z_o y_q (z_i z_w rfl T.len PySem.boot_len (z_a (pv 3) z_b)) z_f (nomark _)))))) (z_g (z_l (y_k (z_a z_k (z_a (z_j z_v (pv 2) z_f (fun _ _=>rfl)) (z_a (z_h G_number_of (hr.mono (by first | decide | lia)) rfl T.M_number_of T.F_number_of.kp T.B_number_of .nil pass0 (z_a (z_j z_v (pv 2) z_f (fun _ _=>rfl)) z_b)) (z_a (z_j z_n (pv 3) z_f (fun _ _=>rfl)) z_b))))))) z_q)
  (z_d (y_d (PW.pt (r_g (z_o y_q (z_j z_v (pv 0) z_f (fun _ _=>rfl)) z_k (nomark _)) (r_g (z_o y_q (z_i z_w rfl T.len PySem.boot_len (z_a (pv 2) z_b)) z_f (nomark _)) (r_h (z_o y_q (z_i z_w rfl T.len PySem.boot_len (z_a (pv 3) z_b)) z_f (nomark _)))))) (z_g (z_l (y_k (z_a z_k (z_a (z_j z_v (pv 2) z_f (fun _ _=>rfl)) (z_a (z_h G_number_of (hr.mono (by first | decide | lia)) rfl T.M_number_of T.F_number_of.kp T.B_number_of .nil pass0 (z_a (z_j z_v (pv 2) z_f (fun _ _=>rfl)) z_b)) (z_a (z_h G_number_of (hr.mono (by first | decide | lia)) rfl T.M_number_of T.F_number_of.kp T.B_number_of .nil pass0 (z_a (z_j z_v (pv 2) z_f (fun _ _=>rfl)) z_b)) (z_a (z_j z_n (pv 3) z_f (fun _ _=>rfl)) z_b)))))))) z_q)
  (z_d (y_d (PW.pt (r_g (z_o y_q (z_j z_v (pv 0) z_f (fun _ _=>rfl)) z_k (nomark _)) (r_h (z_o op_ge (z_i z_w rfl T.len PySem.boot_len (z_a (pv 2) z_b)) z_f (nomark _))))) (z_g (z_l (y_k (z_a z_k (z_a (z_j z_v (pv 2) z_f (fun _ _=>rfl)) (z_a (z_j z_v (pv 2) z_f (fun _ _=>rfl)) (z_a (pv 3) (z_a (z_y y_h rfl T.tuple PyProof.Rows.boot_tuple (z_a (y_s u_v (pv 2) (y_p z_f) w_d) z_b)) z_b)))))))) z_q)
  (z_d (y_d (PW.pt (r_g (z_o y_q (z_j z_v (pv 0) z_f (fun _ _=>rfl)) z_k (nomark _)) (r_h (z_o op_ge (z_i z_w rfl T.len PySem.boot_len (z_a (pv 2) z_b)) z_f (nomark _))))) (z_g (z_l (y_k (z_a z_k (z_a (z_h G_number_of (hr.mono (by first | decide | lia)) rfl T.M_number_of T.F_number_of.kp T.B_number_of .nil pass0 (z_a (z_j z_v (pv 2) z_f (fun _ _=>rfl)) z_b)) (z_a (z_j z_v (pv 2) z_f (fun _ _=>rfl)) (z_a (z_j z_v (pv 2) z_f (fun _ _=>rfl)) (z_a (pv 3) (z_a (z_y y_h rfl T.tuple PyProof.Rows.boot_tuple (z_a (y_s u_v (pv 2) (y_p z_f) w_d) z_b)) z_b))))))))) z_q)
  (z_g x_t))))))))),?_⟩
 have hno:=row_no ok
 obtain ⟨hss,hs8⟩:=row_ss ok
 have hl':=hl
 rw [i_k] at hl'
 have hin:inV (.str "=") (sV (rowHd r++(("=" : Str)::(rowSs r).flatMap (sayW 6))))=true:=by
  unfold inV sV
  rw [List.any_map,List.any_eq_true]
  exact ⟨"=",by simp,by simp [eqV]⟩
 refine ⟨_,rfl,l,_,rfl,.inl (SqL.of hl'),rfl,flatS _,_,rfl,z_s (by show (!inV _ _)=false;rw [hin];rfl) ?_⟩
 have hlen:(rowHd r).length<=12:=by
  cases r with
  | wire n w s=>show 3<=12;decide
  | box n w x s=>show 4<=12;decide
  | use t p z ss ns =>
   have h8:=ok.2.2.2.2.1
   cases t<;>(show (_++ns).length<=12;rw [List.length_append];simp;lia)
 have hbig:(rowHd r++(("=" : Str)::(rowSs r).flatMap (sayW 6))).length<=100000:=by
  have:((rowSs r).flatMap (sayW 6)).length<=8*760:=by
   have go:∀ {L:List PyData},(∀ s∈L,SyOk s)->(L.flatMap (sayW 6)).length<=L.length*760:=by
    intro L
    induction L with
    | nil=>intro _;exact Nat.le_refl _
    | cons x L ih =>
     intro hx
     have h1:=x_z (hx x List.mem_cons_self).pcs.1
     have h2:=(hx x List.mem_cons_self).pcs.2
     have h3:=ih fun y hy=>hx y (List.mem_cons_of_mem _ hy)
     rw [List.flatMap_cons,List.length_append,List.length_cons]
     lia
   have:=go hss
   lia
  rw [List.length_append,List.length_cons]
  lia
 refine ⟨_,rfl,.inl ⟨rfl,_,SqL.of hl'⟩,l,_, "=",(rowHd r).length,rfl,rfl,hl',hbig,?_,?_,?_⟩
 ·rw [List.getElem?_append_right (Nat.le_refl _),Nat.sub_self]
  rfl
 ·intro m hm he
  rw [List.getElem?_append_left hm] at he
  exact hno (List.mem_of_getElem? he)
 dsimp only [gName]
 refine ⟨_,rfl,_,rfl,_,rfl,l,_,rfl,SqL.of hl',fun ph hph=>?_⟩
 have ec1:cutV (sV (rowHd r++(("=" : Str)::(rowSs r).flatMap (sayW 6)))) none (some ((rowHd r).length:Int))=sV (rowHd r):=by
  unfold cutV
  rw [HT.sIx_none,HT.sIx_nat,List.drop_zero,Nat.sub_zero,Nat.min_eq_left (by rw [z_z,List.length_append];lia),w_c]
  conv=>lhs;arg 1;rw [<-z_z (rowHd r)]
  exact List.take_left
 rw [ec1]
 have t1:=z_e hph (.lst (sV (rowHd r)))
 have f1:=z_c (H:=H) (a:=ph) (o:=.lst (sV (rowHd r)))
 dsimp only [gName]
 generalize upd H ph (.lst (sV (rowHd r)))=H1 at t1 f1 ⊢
 refine ⟨_,rfl,_,rfl,_,_,rfl,rfl,_,rfl,l,_,rfl,SqL.of (t1 _ _ hl'),fun pr hpr=>?_⟩
 have ec2:cutV (sV (rowHd r++(("=" : Str)::(rowSs r).flatMap (sayW 6)))) (some (((rowHd r).length:Int)+1)) none=sV ((rowSs r).flatMap (sayW 6)):=by
  rw [show ((rowHd r).length:Int)+1=(((rowHd r).length+1:Nat):Int) by lia,s_e (by rw [z_z,List.length_append,List.length_cons];lia)]
  rw [show rowHd r++(("=" : Str)::(rowSs r).flatMap (sayW 6))=(rowHd r++(["="]:List Str))++(rowSs r).flatMap (sayW 6) by simp,w_c]
  conv=>lhs;arg 1;rw [show (rowHd r).length+1=(sV (rowHd r++(["="]:List Str))).length by rw [z_z,List.length_append];rfl]
  exact List.drop_left
 rw [ec2]
 have t2:=z_e hpr (.lst (sV ((rowSs r).flatMap (sayW 6))))
 refine ⟨pr,rowSs r,rfl,z_c,hss,hs8,fun pt xs H3 s3 ft hxs=>?_⟩
 have t3:=t2.trans s3
 have u3:=t1.trans t3
 have f3:=t3 _ _ f1
 have hl3:=u3 _ _ hl
 dsimp only [gName]
 cases r with
 | wire n w s =>
  obtain ⟨k1,k2,k3,k4⟩:=ok
  obtain ⟨x,rr,rfl,hx,hr'⟩:=hxs.consI
  cases hr'.nilI
  refine ⟨_,rfl,l,_,_,_,rfl,rfl,SqL.of hl3,(show atI _ ((0:Nat):Int)=_ from z_t rfl),rfl,_,rfl,y_b (by decide) ?_⟩
  refine ⟨_,rfl,_,_,rfl,.inl ⟨_,SqL.of f3,rfl⟩,rfl,_,rfl,y_b rfl ?_⟩
  refine ⟨_,rfl,_,_,rfl,.inr ⟨_,SqT.of ft,rfl⟩,rfl,_,rfl,y_b rfl ?_⟩
  refine ⟨_,rfl,ph,_,_,_,rfl,rfl,SqL.of f3,rfl,_,rfl,ph,_,_,_,rfl,rfl,SqL.of f3,rfl,w,rfl,by lia,fun H4 s4=>⟨_,rfl,pt,_,_,_,rfl,rfl,SqT.of (s4 _ _ ft),rfl,zl4,fun t ht=>?_⟩⟩
  exact q _ _ (u3.trans (s4.trans (z_e ht _))) (.tup z_c (.cons (.str _) (.cons (.str _) (.cons (.int _) (.cons (hx.same (s4.trans (z_e ht _))) .nil)))))
 | box n w x s =>
  obtain ⟨k1,k2,k3,kx,k4⟩:=ok
  have x256:=pow8 kx k3
  obtain ⟨y,rr,rfl,hx,hr'⟩:=hxs.consI
  cases hr'.nilI
  refine ⟨_,rfl,l,_,_,_,rfl,rfl,SqL.of hl3,(show atI _ ((0:Nat):Int)=_ from z_t rfl),rfl,_,rfl,z_s (by decide) (iteF ?_)⟩
  refine ⟨_,rfl,l,_,_,_,rfl,rfl,SqL.of hl3,(show atI _ ((0:Nat):Int)=_ from z_t rfl),rfl,_,rfl,y_b (by decide) ?_⟩
  refine ⟨_,rfl,_,_,rfl,.inl ⟨_,SqL.of f3,rfl⟩,rfl,_,rfl,y_b rfl ?_⟩
  refine ⟨_,rfl,_,_,rfl,.inr ⟨_,SqT.of ft,rfl⟩,rfl,_,rfl,y_b rfl ?_⟩
  refine ⟨_,rfl,ph,_,_,_,rfl,rfl,SqL.of f3,rfl,_,rfl,ph,_,_,_,rfl,rfl,SqL.of f3,rfl,w,rfl,by lia,fun H4 s4=>⟨_,rfl,ph,_,_,_,rfl,rfl,SqL.of (s4 _ _ f3),rfl,x,rfl,by lia,fun H5 s5=>⟨_,rfl,pt,_,_,_,rfl,rfl,SqT.of (s5 _ _ (s4 _ _ ft)),rfl,zl5,fun t ht=>?_⟩⟩⟩
  exact q _ _ (u3.trans ((s4.trans s5).trans (z_e ht _))) (.tup z_c (.cons (.str _) (.cons (.str _) (.cons (.int _) (.cons (.int _) (.cons (hx.same ((s4.trans s5).trans (z_e ht _))) .nil))))))
 | use t p z ss ns =>
  obtain ⟨k0,n1,n2,l1,l2,hss',hns⟩:=ok
  cases t with
  | none =>
   refine ⟨_,rfl,l,_,_,_,rfl,rfl,SqL.of hl3,(show atI _ ((0:Nat):Int)=_ from z_t rfl),rfl,_,rfl,z_s (by decide) (iteF ?_)⟩
   refine ⟨_,rfl,l,_,_,_,rfl,rfl,SqL.of hl3,(show atI _ ((0:Nat):Int)=_ from z_t rfl),rfl,_,rfl,z_s (by decide) (iteF ?_)⟩
   refine ⟨_,rfl,l,_,_,_,rfl,rfl,SqL.of hl3,(show atI _ ((0:Nat):Int)=_ from z_t rfl),rfl,_,rfl,y_b (by decide) ?_⟩
   refine ⟨_,rfl,_,_,rfl,.inl ⟨_,SqL.of f3,rfl⟩,_,_,rfl,rfl,_,rfl,y_b (decide_eq_true (by rw [z_z];show (3:Int)<=(((["use",p,z]:List Str)++ns).length:Nat);rw [List.length_append];simp;lia)) ?_⟩
   refine ⟨_,rfl,ph,_,_,_,rfl,rfl,SqL.of f3,(show atI _ ((1:Nat):Int)=_ from z_t rfl),_,rfl,ph,_,_,_,rfl,rfl,SqL.of f3,(show atI _ ((2:Nat):Int)=_ from z_t rfl),_,rfl,_,rfl,_,rfl,ph,_,rfl,SqL.of f3,fun pa hpa=>?_⟩
   have ec3:cutV (sV (rowHd (PRw.use none p z ss ns))) (some 3) none=sV ns:=by
    show cutV (sV ((["use",p,z]:List Str)++ns)) (some 3) none=sV ns
    rw [show (3:Int)=((3:Nat):Int) from rfl,s_e (by rw [z_z,List.length_append];simp)]
    rfl
   rw [ec3]
   refine ⟨pa,_,rfl,.inl ⟨SqL.of z_c,fun pb hpb=>⟨zl5,fun t ht=>?_⟩⟩⟩
   have w1:=(z_e hpa (.lst (sV ns))).trans (z_e hpb (.tup (sV ns)))
   have fb:=z_c (H:=upd H3 pa (.lst (sV ns))) (a:=pb) (o:=.tup (sV ns))
   generalize upd (upd H3 pa (.lst (sV ns))) pb (.tup (sV ns))=H4 at w1 fb ht ⊢
   have w2:=z_e ht (.tup [.str "part",.str p,.str z,.ref pt,.ref pb])
   exact q _ _ (u3.trans (w1.trans w2)) (.tup z_c (.cons (.str _) (.cons (.str _) (.cons (.str _) (.cons (.tup (w2 _ _ (w1 _ _ ft)) (hxs.same (w1.trans w2))) (.cons (.tup (w2 _ _ fb) (strsN ns)) .nil))))))
  | some t =>
   have t8:=(k0 t rfl).2
   refine ⟨_,rfl,l,_,_,_,rfl,rfl,SqL.of hl3,(show atI _ ((0:Nat):Int)=_ from z_t rfl),rfl,_,rfl,z_s (by decide) (iteF ?_)⟩
   refine ⟨_,rfl,l,_,_,_,rfl,rfl,SqL.of hl3,(show atI _ ((0:Nat):Int)=_ from z_t rfl),rfl,_,rfl,z_s (by decide) (iteF ?_)⟩
   refine ⟨_,rfl,l,_,_,_,rfl,rfl,SqL.of hl3,(show atI _ ((0:Nat):Int)=_ from z_t rfl),rfl,_,rfl,z_s (by decide) (iteF ?_)⟩
   refine ⟨_,rfl,l,_,_,_,rfl,rfl,SqL.of hl3,(show atI _ ((0:Nat):Int)=_ from z_t rfl),rfl,_,rfl,y_b (by decide) ?_⟩
   refine ⟨_,rfl,_,_,rfl,.inl ⟨_,SqL.of f3,rfl⟩,_,_,rfl,rfl,_,rfl,y_b (decide_eq_true (by rw [z_z];show (4:Int)<=(((["times",nw t,p,z]:List Str)++ns).length:Nat);rw [List.length_append];simp;lia)) ?_⟩
   refine ⟨_,rfl,ph,_,_,_,rfl,rfl,SqL.of f3,(show atI _ ((1:Nat):Int)=_ from z_t rfl),t,rfl,by lia,fun H4 s4=>?_⟩
   have f4:=s4 _ _ f3
   refine ⟨_,rfl,ph,_,_,_,rfl,rfl,SqL.of f4,(show atI _ ((2:Nat):Int)=_ from z_t rfl),_,rfl,ph,_,_,_,rfl,rfl,SqL.of f4,(show atI _ ((3:Nat):Int)=_ from z_t rfl),_,rfl,_,rfl,_,rfl,ph,_,rfl,SqL.of f4,fun pa hpa=>?_⟩
   have ec3:cutV (sV (rowHd (PRw.use (some t) p z ss ns))) (some 4) none=sV ns:=by
    show cutV (sV ((["times",nw t,p,z]:List Str)++ns)) (some 4) none=sV ns
    rw [show (4:Int)=((4:Nat):Int) from rfl,s_e (by rw [z_z,List.length_append];simp)]
    rfl
   rw [ec3]
   refine ⟨pa,_,rfl,.inl ⟨SqL.of z_c,fun pb hpb=>⟨zl6,fun tt ht=>?_⟩⟩⟩
   have w1:=s4.trans ((z_e hpa (.lst (sV ns))).trans (z_e hpb (.tup (sV ns))))
   have fb:=z_c (H:=upd H4 pa (.lst (sV ns))) (a:=pb) (o:=.tup (sV ns))
   generalize upd (upd H4 pa (.lst (sV ns))) pb (.tup (sV ns))=H5 at w1 fb ht ⊢
   have w2:=z_e ht (.tup [.str "times",.int (t:Int),.str p,.str z,.ref pt,.ref pb])
   exact q _ _ (u3.trans (w1.trans w2)) (.tup z_c (.cons (.str _) (.cons (.int _) (.cons (.str _) (.cons (.str _) (.cons (.tup (w2 _ _ (w1 _ _ ft)) (hxs.same (w1.trans w2))) (.cons (.tup (w2 _ _ fb) (strsN ns)) .nil)))))))
theorem o_c(T:Tx w K mg A)(G_sections_of:FnOk P w K mg base CX0 1 A.a_sections_of A.d_sections_of ["rows", "words"] i_u)(G_words_behind:FnOk P w K mg base CX0 1 A.a_words_behind A.d_words_behind ["row", "many"] w_a)(G_read_port:FnOk P w K mg base CX0 3 A.a_read_port A.d_read_port ["row"] l_g)(G_read_row:FnOk P w K mg base CX0 14 A.a_read_row A.d_read_row ["row"] i_t):FnOk P w K mg base CX0 15 A.a_read_part A.d_read_part ["rows"] l_e:=by
 refine T.F_read_part.ok sc_read_part (fun vs H Q E h=>?_) (fun cdv A' outer s H vs Q E hr h=>?_)
 ·obtain ⟨p,rs,P,rfl,ok,hp,pr,q⟩:=h
  rfl
 obtain ⟨p,rs,P,rfl,ok,hp,pr,q⟩:=h
 refine ⟨_,(z_d (z_p (i:=1) sc_read_part.nd rfl (Or.inl rfl) (z_h G_sections_of (hr.mono (by first | decide | lia)) rfl T.M_sections_of T.F_sections_of.kp T.B_sections_of .nil pass0 (z_a (pv 0) (z_a (y_k (t_o rfl)) z_b))))
  (z_d (y_d (z_o n_j (z_i z_w rfl T.len PySem.boot_len (z_a (z_j z_v (pv 1) z_f (fun _ _=>rfl)) z_b)) z_f (nomark _)) (z_g x_t) z_q)
  (z_d (z_p (i:=2) sc_read_part.nd rfl (Or.inl rfl) (z_j z_v (z_h G_words_behind (hr.mono (by first | decide | lia)) rfl T.M_words_behind T.F_words_behind.kp T.B_words_behind .nil pass0 (z_a (z_j z_v (z_j z_v (pv 1) z_f (fun _ _=>rfl)) z_f (fun _ _=>rfl)) (z_a z_f z_b))) z_f (fun _ _=>rfl)))
  (z_d (z_p (i:=3) sc_read_part.nd rfl (Or.inl rfl) (z_y y_h rfl T.tuple PyProof.Rows.boot_tuple (z_a (y_o [] (fun _ _ h=>h) rfl (x_s (z_j z_v (pv 1) z_f (fun _ _=>rfl))) (fun _ _ _ _=>y_m) (fun _ _ _ _=>(z_h G_read_port (hr.mono (by first | decide | lia)) rfl T.M_read_port T.F_read_port.kp T.B_read_port .nil pass0 (z_a (pv 0) z_b))) rfl (show ∀ j∈([]:List Nat),j<5 by decide) (show (["row"]:List Str).Nodup by decide +kernel)) z_b)))
  (z_d (z_p (i:=4) sc_read_part.nd rfl (Or.inl rfl) (z_y y_h rfl T.tuple PyProof.Rows.boot_tuple (z_a (y_o [] (fun _ _ h=>h) rfl (x_s (z_j z_v (pv 1) z_f (fun _ _=>rfl))) (fun _ _ _ _=>y_m) (fun _ _ _ _=>(z_h G_read_port (hr.mono (by first | decide | lia)) rfl T.M_read_port T.F_read_port.kp T.B_read_port .nil pass0 (z_a (pv 0) z_b))) rfl (show ∀ j∈([]:List Nat),j<5 by decide) (show (["row"]:List Str).Nodup by decide +kernel)) z_b)))
  (z_g (z_l (y_k (z_a (pv 2) (z_a (pv 3) (z_a (pv 4) (z_a (z_y y_h rfl T.tuple PyProof.Rows.boot_tuple (z_a (y_o [] (fun _ _ h=>h) rfl (x_s (z_j z_v (pv 1) z_f (fun _ _=>rfl))) (fun _ _ _ _=>y_m) (fun _ _ _ _=>(z_h G_read_row (hr.mono (by first | decide | lia)) rfl T.M_read_row T.F_read_row.kp T.B_read_row .nil pass0 (z_a (pv 0) z_b))) rfl (show ∀ j∈([]:List Nat),j<5 by decide) (show (["row"]:List Str).Nodup by decide +kernel)) z_b)) z_b)))))))))))),?_⟩
 obtain ⟨r123,r4,rfl,p123,p4⟩:=pairedSplit pr
 obtain ⟨r12,r3,rfl,p12,p3⟩:=pairedSplit p123
 obtain ⟨r1,r2,rfl,p1,p2⟩:=pairedSplit p12
 cases p1 with
 | @cons r0 _ r1' _ e1 q1 =>
 cases q1
 have l2:=Paired.length p2
 have l3:=Paired.length p3
 have l4:=Paired.length p4
 rw [List.length_map] at l2 l3 l4
 have:=ok.il
 have:=ok.ol
 have:=ok.rl
 refine ⟨_,rfl,zl3,fun t ht=>?_⟩
 have st:=z_e ht (.tup (sV ["part", "in", "out"]))
 have f2:=z_c (H:=H) (a:=t) (o:=.tup (sV ["part", "in", "out"]))
 rw [show ([V.str "part",V.str "in",V.str "out"]:List V)=sV ["part", "in", "out"] from rfl]
 generalize upd H t (.tup (sV ["part", "in", "out"]))=H1 at st f2 ⊢
 have S:Secs H1 ([r0]++r2++r3) ["part", "in", "out"] [[r0],r2,r3]:=by
  refine ⟨rfl,by simp,by decide,?_⟩
  rintro i sec u h1 h2 r hr'
  match i,h1,h2 with
  | 0,h1,h2 =>
   cases h1;cases h2
   rw [List.mem_singleton.mp hr']
   exact ⟨_,st _ _ e1⟩
  | 1,h1,h2 =>
   cases h1;cases h2
   obtain ⟨i,hi⟩:=List.getElem?_of_mem hr'
   obtain ⟨wd,hw,e⟩:=x_p p2 hi
   rw [List.getElem?_map] at hw
   obtain ⟨qq,hq,rfl⟩:=Option.map_eq_some_iff.mp hw
   exact ⟨_,st _ _ e⟩
  | 2,h1,h2 =>
   cases h1;cases h2
   obtain ⟨i,hi⟩:=List.getElem?_of_mem hr'
   obtain ⟨wd,hw,e⟩:=x_p p3 hi
   rw [List.getElem?_map] at hw
   obtain ⟨qq,hq,rfl⟩:=Option.map_eq_some_iff.mp hw
   exact ⟨_,st _ _ e⟩
  | i+3,h1,h2=>simp at h1
 have hrt:∀ r∈r4,∃ u tl,u∉(["part", "in", "out"]:List Str)/\H1 r=some (.lst (.str u::tl)):=fun r hr'=>by
  obtain ⟨i,hi⟩:=List.getElem?_of_mem hr'
  obtain ⟨wd,hw,e⟩:=x_p p4 hi
  rw [List.getElem?_map] at hw
  obtain ⟨qq,hq,rfl⟩:=Option.map_eq_some_iff.mp hw
  cases qq with
  | wire n w s=>exact ⟨_,_,by decide,st _ _ e⟩
  | box n w x s=>exact ⟨_,_,by decide,st _ _ e⟩
  | use tm a b ss ns=>cases tm<;>exact ⟨_,_,by decide,st _ _ e⟩
 refine ⟨p,t,[r0]++r2++r3,r4,["part", "in", "out"],[[r0],r2,r3],rfl,st _ _ hp,f2,S,hrt,by simp only [List.length_append];show 1+r2.length+r3.length+r4.length<=200;lia,by decide,fun l ps e H3 hl s3 fl prr fe=>?_⟩
 obtain ⟨a1,a2,a3,rfl,fa1,fa2,fa3⟩:∃ a1 a2 a3,ps=[a1,a2,a3]/\H3 a1=some (.lst [.ref r0])/\H3 a2=some (.lst (r2.map V.ref))/\H3 a3=some (.lst (r3.map V.ref)):=by
  cases prr with
  | cons h1 prr=>cases prr with
   | cons h2 prr=>cases prr with
    | cons h3 prr =>
     cases prr
     exact ⟨_,_,_,rfl,h1,h2,h3⟩
 have sH3:=st.trans s3
 dsimp only [gName]
 refine ⟨_,rfl,l,_,_,_,rfl,rfl,SqL.of fl,rfl,_,_,rfl,.inl ⟨_,SqL.of fa1,rfl⟩,rfl,_,rfl,z_s rfl ?_⟩
 refine ⟨_,rfl,l,_,_,_,rfl,rfl,SqL.of fl,rfl,a1,_,_,_,rfl,rfl,SqL.of fa1,rfl,r0, "part",[P.name],rfl,sH3 _ _ e1,fun p5 hp5=>⟨p5,_,_,_,rfl,rfl,SqL.of z_c,rfl,?_⟩⟩
 have s4:=z_e hp5 (.lst (sV [P.name]))
 dsimp only [gName]
 generalize upd H3 p5 (.lst (sV [P.name]))=H4 at s4 ⊢
 clear hp5
 refine ⟨_,rfl,l,_,_,_,rfl,rfl,SqL.of (s4 _ _ fl),rfl,a2,rfl,⟨_,SqL.of (s4 _ _ fa2)⟩,w_h (xs:=r2.map V.ref) (fun k zs J=>Same H4 J/\Dats J ((P.ins.take k).map portP) zs) ⟨Same.refl _,.nil⟩ ?_ ?_ ?_ ?_⟩
 ·rintro i zs J _ ⟨s',_⟩
  exact SqL.of (s' _ _ (s4 _ _ fa2))
 ·rintro i zs J hi ⟨_,hz⟩
  have:=hz.length
  rw [List.length_map,List.length_take] at this
  exact y_j (by lia)
 ·rintro i v zs J hv ⟨s',hz⟩
  rw [List.getElem?_map] at hv
  obtain ⟨r,hr1,rfl⟩:=Option.map_eq_some_iff.mp hv
  obtain ⟨wd,hw,hrr⟩:=x_p p2 hr1
  rw [List.getElem?_map] at hw
  obtain ⟨qq,hq,rfl⟩:=Option.map_eq_some_iff.mp hw
  have okq:=ok.ins qq (List.mem_of_getElem? hq)
  have:=okq.2.2
  unfold tYes
  refine iteT ⟨_,rfl,r, "in",qq.1,qq.2,rfl,(sH3.trans (s4.trans s')) _ _ hrr,by lia,fun tt J' s'' ft=>⟨s'.trans s'',?_⟩⟩
  rw [y_f hq,List.map_append]
  exact (hz.same s'').append (.cons (.tup ft (.cons (.str _) (.cons (.int _) .nil))) .nil)
 rintro zs J ⟨s',hz⟩ pc1 hpc
 have lr1:=Paired.length p2
 rw [List.length_map] at lr1
 rw [List.length_map,lr1,List.take_length] at hz
 refine ⟨pc1,_,rfl,.inl ⟨SqL.of z_c,fun ti htp=>?_⟩⟩
 have w1:=(z_e hpc (.lst zs)).trans (z_e htp (.tup zs))
 have fti:=z_c (H:=upd J pc1 (.lst zs)) (a:=ti) (o:=.tup zs)
 have hz1:=hz.same w1
 dsimp only [gName]
 generalize upd (upd J pc1 (.lst zs)) ti (.tup zs)=H5 at w1 fti hz1 ⊢
 have s5:=s4.trans (s'.trans w1)
 clear hpc htp hz s' w1
 refine ⟨_,rfl,l,_,_,_,rfl,rfl,SqL.of (s5 _ _ fl),rfl,a3,rfl,⟨_,SqL.of (s5 _ _ fa3)⟩,w_h (xs:=r3.map V.ref) (fun k zs J=>Same H5 J/\Dats J ((P.outs.take k).map portP) zs) ⟨Same.refl _,.nil⟩ ?_ ?_ ?_ ?_⟩
 ·rintro i zs J _ ⟨s',_⟩
  exact SqL.of (s' _ _ (s5 _ _ fa3))
 ·rintro i zs J hi ⟨_,hz⟩
  have:=hz.length
  rw [List.length_map,List.length_take] at this
  exact y_j (by lia)
 ·rintro i v zs J hv ⟨s',hz⟩
  rw [List.getElem?_map] at hv
  obtain ⟨r,hr1,rfl⟩:=Option.map_eq_some_iff.mp hv
  obtain ⟨wd,hw,hrr⟩:=x_p p3 hr1
  rw [List.getElem?_map] at hw
  obtain ⟨qq,hq,rfl⟩:=Option.map_eq_some_iff.mp hw
  have okq:=ok.outs qq (List.mem_of_getElem? hq)
  have:=okq.2.2
  unfold tYes
  refine iteT ⟨_,rfl,r, "out",qq.1,qq.2,rfl,(sH3.trans (s5.trans s')) _ _ hrr,by lia,fun tt J' s'' ft=>⟨s'.trans s'',?_⟩⟩
  rw [y_f hq,List.map_append]
  exact (hz.same s'').append (.cons (.tup ft (.cons (.str _) (.cons (.int _) .nil))) .nil)
 rintro zs J ⟨s',hz⟩ pc2 hpc
 have lr2:=Paired.length p3
 rw [List.length_map] at lr2
 rw [List.length_map,lr2,List.take_length] at hz
 refine ⟨pc2,_,rfl,.inl ⟨SqL.of z_c,fun to htp=>?_⟩⟩
 have w2:=(z_e hpc (.lst zs)).trans (z_e htp (.tup zs))
 have fto:=z_c (H:=upd J pc2 (.lst zs)) (a:=to) (o:=.tup zs)
 have hz2:=hz.same w2
 dsimp only [gName]
 generalize upd (upd J pc2 (.lst zs)) to (.tup zs)=H6 at w2 fto hz2 ⊢
 have s56:=s'.trans w2
 have s6:=s5.trans (s'.trans w2)
 clear hpc htp hz s' w2
 refine ⟨_,rfl,_,rfl,_,rfl,_,rfl,l,_,_,_,rfl,rfl,SqL.of (s6 _ _ fl),rfl,e,rfl,⟨_,SqL.of (s6 _ _ fe)⟩,w_h (xs:=r4.map V.ref) (fun k zs J=>Same H6 J/\Dats J ((P.rows.take k).map PRw.dat) zs) ⟨Same.refl _,.nil⟩ ?_ ?_ ?_ ?_⟩
 ·rintro i zs J _ ⟨s',_⟩
  exact SqL.of (s' _ _ (s6 _ _ fe))
 ·rintro i zs J hi ⟨_,hz⟩
  have:=hz.length
  rw [List.length_map,List.length_take] at this
  exact y_j (by lia)
 ·rintro i v zs J hv ⟨s',hz⟩
  rw [List.getElem?_map] at hv
  obtain ⟨r,hr1,rfl⟩:=Option.map_eq_some_iff.mp hv
  obtain ⟨wd,hw,hrr⟩:=x_p p4 hr1
  rw [List.getElem?_map] at hw
  obtain ⟨qq,hq,rfl⟩:=Option.map_eq_some_iff.mp hw
  unfold tYes
  refine iteT ⟨_,rfl,r,qq,rfl,ok.rows qq (List.mem_of_getElem? hq),(sH3.trans (s6.trans s')) _ _ hrr,fun v' J' s'' hD=>⟨s'.trans s'',?_⟩⟩
  rw [y_f hq,List.map_append]
  exact (hz.same s'').append (.cons hD .nil)
 rintro zs J ⟨s',hz⟩ pc hpc
 rw [List.length_map,l4,List.take_length] at hz
 refine ⟨pc,_,rfl,.inl ⟨SqL.of z_c,fun tr htr=>⟨zl4,fun tt htt=>?_⟩⟩⟩
 have w3:=(z_e hpc (.lst zs)).trans (z_e htr (.tup zs))
 have ftr:=z_c (H:=upd J pc (.lst zs)) (a:=tr) (o:=.tup zs)
 have w4:=z_e htt (.tup [.str P.name,.ref ti,.ref to,.ref tr])
 have wz:=(s'.trans w3).trans w4
 exact q _ _ ((sH3.trans s6).trans wz) (.tup z_c (.cons (.str _) (.cons (.tup (wz _ _ (s56 _ _ fti)) ((hz1.same s56).same wz)) (.cons (.tup (wz _ _ fto) (hz2.same wz)) (.cons (.tup (w4 _ _ ftr) (hz.same (w3.trans w4))) .nil)))))
theorem o_d(T:Tx w K mg A)(G_rows_of:FnOk P w K mg base CX0 1 A.a_rows_of A.d_rows_of ["text"] r_t)(G_words_behind:FnOk P w K mg base CX0 1 A.a_words_behind A.d_words_behind ["row", "many"] w_a)(G_is_plan:FnOk P w K mg base CX0 11 A.a_is_plan A.d_is_plan ["thing"] o_p)(G_read_part:FnOk P w K mg base CX0 15 A.a_read_part A.d_read_part ["rows"] l_e):FnOk P w K mg base CX0 16 A.a_read_plan A.d_read_plan ["text"] l_f:=by
 refine T.F_read_plan.ok sc_read_plan (fun vs H Q E h=>?_) (fun cdv A' outer s H vs Q E hr h=>?_)
 ·obtain ⟨ps,rfl,h1,h6,ok,tok,q⟩:=h
  rfl
 obtain ⟨ps,rfl,h1,h6,ok,tok,q⟩:=h
 refine ⟨_,(z_d (z_p (i:=1) sc_read_plan.nd rfl (Or.inl rfl) (y_u z_b))
  (z_d (z_p (i:=2) sc_read_plan.nd rfl (Or.inl rfl) (y_u z_b))
  (z_d (x_j PassesOwn.never rfl (x_s (z_h G_rows_of (hr.mono (by first | decide | lia)) rfl T.M_rows_of T.F_rows_of.kp T.B_rows_of .nil pass0 (z_a (pv 0) z_b))) (y_g (i:=3) sc_read_plan.nd rfl (Or.inl rfl))
    (z_g (y_d (z_o y_q (z_j z_v (pv 3) z_f (fun _ _=>rfl)) z_k (nomark _)) (z_d (y_z (z_h G_words_behind (hr.mono (by first | decide | lia)) rfl T.M_words_behind T.F_words_behind.kp T.B_words_behind .nil pass0 (z_a (pv 3) (z_a z_f z_b))))
  (z_d (y_z (w_t PySem.F.plainAttrs_list PySem.F.slot_list_append PySem.F.type_list_append x_e (pv 1) (z_a (z_h G_read_part (hr.mono (by first | decide | lia)) rfl T.M_read_part T.F_read_part.kp T.B_read_part .nil pass0 (z_a (pv 2) z_b)) z_b)))
  (z_g (z_p (i:=2) sc_read_plan.nd rfl (Or.inl rfl) (y_u z_b))))) (z_g (y_z (w_t PySem.F.plainAttrs_list PySem.F.slot_list_append PySem.F.type_list_append x_e (pv 2) (z_a (pv 3) z_b)))))))
  (z_d (y_d (PW.pt (v_i (z_o o_f (z_i z_w rfl T.len PySem.boot_len (z_a (pv 2) z_b)) z_f (nomark _)) (w_j (x_a (y_c (z_h G_is_plan (hr.mono (by first | decide | lia)) rfl T.M_is_plan T.F_is_plan.kp T.B_is_plan .nil pass0 (z_a (pv 1) z_b)) (fun _=>rfl)))))) (z_g x_t) z_q)
  (z_g (z_l (pv 1))))))),?_⟩
 refine ⟨zl0,fun pl hpl=>?_⟩
 have t0:=z_e hpl (.lst [])
 have f0:=z_c (H:=H) (a:=pl) (o:=.lst [])
 dsimp only [gName]
 generalize upd H pl (.lst [])=H0 at t0 f0 ⊢
 refine ⟨zl0,fun pc0 hpc0=>?_⟩
 have t1:=z_e hpc0 (.lst [])
 have f1:=z_c (H:=H0) (a:=pc0) (o:=.lst [])
 have npc:pc0≠pl:=(z_r f0 hpc0).symm
 have hpc0H:=t0.free hpc0
 dsimp only [gName]
 generalize upd H0 pc0 (.lst [])=H1 at t1 f1 ⊢
 have hne:plnW ps≠[]:=by
  match ps,h1 with
  | P::ps,_=>unfold plnW PPt.ws;simp
 refine ⟨_,rfl,plnW ps,rfl,hne,tok,fun p rs HB hp sB TB=>?_⟩
 have fl:=sB _ _ (t1 _ _ f0)
 have fc:=sB _ _ f1
 have sHB:=(t0.trans t1).trans sB
 have nppl:p≠pl:=(z_r (t1 _ _ f0) hp).symm
 have nppc:p≠pc0:=(z_r f1 hp).symm
 have lrs:=Paired.length TB.2
 have hmany:=tok.many
 have hrow:∀ {i:Nat} {r:Addr},rs[i]? = some r->∃ ws,(plnW ps)[i]? = some ws/\HB r=some (.lst (sV ws))/\r≠pl/\r≠pc0:=fun hi=>by
  obtain ⟨ws,h2,h3⟩:=x_p TB.2 hi
  have hf:=tok.full ws (List.mem_of_getElem? h2)
  obtain ⟨w0,wt,rfl⟩:=List.exists_cons_of_ne_nil hf
  exact ⟨_,h2,h3,(fun e=>by rw [e,fl] at h3;cases h3),(fun e=>by rw [e,fc] at h3;cases h3)⟩
 clear t0 t1 sB hp f0 f1
 let KP:Hp->Prop:=fun J=>∀ b o,b≠pl->b≠pc0->HB b=some o->J b=some o
 refine ⟨p,rfl,⟨_,SqL.of TB.1⟩,u_x (xs:=rs.map V.ref) (fun j σ J=>∃ (i k:Nat) (x3:Option V) (pc:Addr) (xs:List V),σ=[some (.str (txt (plnW ps))),some (.ref pl),some (.ref pc),x3]/\KP J/\j=(plnW (ps.take i)).length+k/\i<=ps.length/\(∀ P,ps[i]? = some P->k<=P.body.length)/\(i=ps.length->k=0)/\pc≠pl/\(pc=pc0\/HB pc=none)/\J pl=some (.lst xs)/\Dats J ((ps.take i).map PPt.dat) xs/\J pc=some (.lst (((rs.drop (plnW (ps.take i)).length).take k).map V.ref))) ⟨0,0,_,pc0,[],rfl,fun _ _ _ _ e=>e,rfl,Nat.zero_le _,fun _ _=>Nat.zero_le _,fun _=>rfl,npc,.inl rfl,fl,.nil,fc⟩ ?_ ?_ ?_⟩
 ·rintro j σ J _ ⟨_,_,_,_,_,_,kp,_⟩
  exact SqL.of (kp _ _ nppl nppc TB.1)
 ·rintro j v σ J hv ⟨i,k,x3,pc,xs,rfl,kp,rfl,hi,hk,hk0,np,npc',fpl,hxs,fpc⟩
  rw [List.getElem?_map] at hv
  obtain ⟨r,hrr,rfl⟩:=Option.map_eq_some_iff.mp hv
  obtain ⟨ws,hws,hHB,n1,n2⟩:=hrow hrr
  have hJr:=kp _ _ n1 n2 hHB
  have hjl:(plnW (ps.take i)).length+k<(plnW ps).length:=(List.getElem?_eq_some_iff.mp hws).1
  have hil:i<ps.length:=by
   rcases Nat.lt_or_ge i ps.length with h | h
   ·exact h
   ·have e:i=ps.length:=by lia
    have:=hk0 e
    rw [e,List.take_length] at hjl
    lia
  have hPi:ps[i]? = some ps[i]:=List.getElem?_eq_getElem hil
  have okP:=ok _ (List.getElem_mem hil)
  generalize ps[i]=P at hPi okP
  have hkP:=hk P hPi
  have eA:plnW ps=plnW (ps.take i)++(P.body++([["end"]]:List (List Str))++plnW (ps.drop (i+1))):=by
   have h2:ps=ps.take i++P::ps.drop (i+1):=by
    obtain ⟨hh,he⟩:=List.getElem?_eq_some_iff.mp hPi
    rw [<-he,<-List.drop_eq_getElem_cons hh,List.take_append_drop]
   unfold plnW
   conv=>lhs;rw [h2]
   rw [List.flatMap_append,List.flatMap_cons,n_s]
  have eT:plnW (ps.take (i+1))=plnW (ps.take i)++(P.body++([["end"]]:List (List Str))):=by
   unfold plnW
   rw [y_f hPi,List.flatMap_append,<-n_s]
   simp
  have hat:(P.body++([["end"]]:List (List Str))++plnW (ps.drop (i+1)))[k]? = some ws:=by
   rw [eA,List.getElem?_append_right (by lia),Nat.add_sub_cancel_left] at hws
   exact hws
  by_cases c:k<P.body.length
  ·have hb:P.body[k]? = some ws:=by
    rw [List.append_assoc,List.getElem?_append_left c] at hat
    exact hat
   obtain ⟨u,tl,rfl,hu⟩:=body_hd (List.mem_of_getElem? hb)
   refine ⟨_,rfl,r,_,_,_,rfl,rfl,SqL.of hJr,(show atI _ ((0:Nat):Int)=_ from z_t rfl),rfl,_,rfl,z_s (decide_eq_false (fun e=>hu (by injection e))) ?_⟩
   refine ⟨_,rfl,.inl ⟨rfl,_,SqL.of fpc⟩,_,rfl,pc,_,_,rfl,rfl,fpc,y_j (by rw [List.length_map,List.length_take,List.length_drop];lia),?_⟩
   refine ⟨i,k+1,_,pc,xs,rfl,fun b o b1 b2 e=>?_,rfl,hi,fun P' hP'=>?_,fun e=>by lia,np,npc',?_,?_,?_⟩
   ·rw [y_a (fun z=>by
     rcases npc' with h | h
     ·exact b2 (z.trans h)
     ·rw [z,h] at e;cases e)]
    exact kp b o b1 b2 e
   ·rw [hPi] at hP'
    cases hP'
    exact c
   ·rw [y_a (Ne.symm np)]
    exact fpl
   ·exact hxs.keepT (KeepT.lst fpc _) (x_g fun d hd=>by
     obtain ⟨P',hP',rfl⟩:=List.mem_map.mp hd
     exact s_o (ok P' (List.mem_of_mem_take hP')))
   ·rw [z_c]
    have e:(rs.drop (plnW (ps.take i)).length)[k]? = some r:=by rw [List.getElem?_drop];exact hrr
    rw [y_f e,List.map_append]
    rfl
  ·have ek:k=P.body.length:=by lia
   have hw:ws=(["end"]:List Str):=by
    rw [ek,List.append_assoc,List.getElem?_append_right (Nat.le_refl _),Nat.sub_self] at hat
    exact (Option.some.inj hat).symm
   subst hw
   refine ⟨_,rfl,r,_,_,_,rfl,rfl,SqL.of hJr,rfl,rfl,_,rfl,y_b (by decide) ?_⟩
   refine ⟨_,rfl,r, "end",[],rfl,hJr,fun p7 hp7=>?_⟩
   have t7:=z_e hp7 (.lst (sV []))
   generalize upd J p7 (.lst (sV []))=J1 at t7 ⊢
   have fpc1:=t7 _ _ fpc
   have fpl1:=t7 _ _ fpl
   have prB:Paired (fun r ws=>J1 r=some (.lst (sV ws))) ((rs.drop (plnW (ps.take i)).length).take k) P.body:=by
    have h2:=pairTk k (pairDr (plnW (ps.take i)).length TB.2)
    rw [eA] at h2
    conv at h2=>arg 3;rw [List.drop_left,ek,List.append_assoc,List.take_left]
    refine pairAll h2 fun r' ws' hm h3=>?_
    obtain ⟨i',hi'⟩:=List.getElem?_of_mem (List.mem_of_mem_drop (List.mem_of_mem_take hm))
    obtain ⟨ws2,_,h5,n3,n4⟩:=hrow hi'
    exact t7 _ _ (kp _ _ n3 n4 h3)
   refine ⟨_,rfl,.inl ⟨rfl,_,SqL.of fpl1⟩,_,rfl,pc,_,P,rfl,okP,fpc1,prB,fun v J2 s2 hD=>?_⟩
   have fpl2:=s2 _ _ fpl1
   have hx2:=(hxs.same t7).same s2
   have lx:=hxs.length
   rw [List.length_map,List.length_take] at lx
   refine ⟨pl,_,_,rfl,rfl,fpl2,y_j (by lia),?_⟩
   refine ⟨zl0,fun p8 hp8=>?_⟩
   have n8:p8≠pl:=(z_r (z_c (H:=J2) (a:=pl)) hp8).symm
   have hall:noLs ((ps.take (i+1)).map PPt.dat)=true:=x_g fun d hd=>by
    obtain ⟨P',hP',rfl⟩:=List.mem_map.mp hd
    exact s_o (ok P' (List.mem_of_mem_take hP'))
   have kp3:KP (upd (upd J2 pl (.lst (xs++[v]))) p8 (.lst [])):=fun b o b1 b2 e=>z_e hp8 _ _ _ (by rw [y_a b1];exact s2 _ _ (t7 _ _ (kp b o b1 b2 e)))
   have hDx:Dats (upd J2 pl (.lst (xs++[v]))) ((ps.take (i+1)).map PPt.dat) (xs++[v]):=by
    refine Dats.keepT (KeepT.lst fpl2 _) hall ?_
    rw [y_f hPi,List.map_append]
    exact hx2.append (.cons hD .nil)
   have l1:(plnW (ps.take (i+1))).length=(plnW (ps.take i)).length+k+1:=by rw [eT,List.length_append,List.length_append,ek];rfl
   refine ⟨i+1,0,_,p8,xs++[v],rfl,kp3,by lia,hil,fun _ _=>Nat.zero_le _,fun _=>rfl,n8,?_,?_,hDx.same (z_e hp8 _),?_⟩
   ·by_cases c8:p8=pc0
    ·exact .inl c8
    ·refine .inr ?_
     cases e:HB p8 with
     | none=>rfl
     | some o =>
      have:=kp3 p8 o n8 c8 e
      have h9:(upd J2 pl (.lst (xs++[v]))) p8=some o:=by rw [y_a n8];exact s2 _ _ (t7 _ _ (kp p8 o n8 c8 e))
      rw [hp8] at h9
      cases h9
   ·exact z_e hp8 _ _ _ z_c
   ·rw [z_c]
    rfl
 rintro σ J ⟨i,k,x3,pc,xs,rfl,kp,hj,hi,hk,hk0,np,npc',fpl,hxs,fpc⟩
 rw [List.length_map,lrs] at hj
 have ei:i=ps.length:=by
  rcases Nat.lt_or_ge i ps.length with h | h
  ·have hPi:ps[i]? = some ps[i]:=List.getElem?_eq_getElem h
   have h2:=hk _ hPi
   have:(plnW (ps.take (i+1))).length<=(plnW ps).length:=by
    have:plnW ps=plnW (ps.take (i+1))++plnW (ps.drop (i+1)):=by unfold plnW;rw [<-List.flatMap_append,List.take_append_drop]
    rw [this,List.length_append]
    lia
   have eT:(plnW (ps.take (i+1))).length=(plnW (ps.take i)).length+(ps[i].body.length+1):=by
    unfold plnW
    rw [y_f hPi,List.flatMap_append,List.length_append]
    congr 1
    show ([ps[i]].flatMap PPt.ws).length=_
    rw [List.flatMap_cons,List.flatMap_nil,List.append_nil,n_s,List.length_append]
    rfl
   lia
  ·lia
 have ek:=hk0 ei
 subst ek
 rw [ei,List.take_length] at hxs
 have sHJ:Same H J:=fun b o e=>kp b o (z_r e hpl) (z_r e hpc0H) (sHB _ _ e)
 refine ⟨_,rfl,_,_,rfl,.inl ⟨_,SqL.of fpc,rfl⟩,_,_,rfl,rfl,_,rfl,z_s (by simp) ?_⟩
 refine ⟨_,rfl,pl,ps,xs,rfl,h1,h6,ok,fpl,hxs,fun J2 s2=>⟨_,rfl,z_s rfl ⟨_,rfl,q pl xs J2 hpl (sHJ.trans s2) (s2 _ _ fpl) (hxs.same s2)⟩⟩⟩
theorem t_m(T:Tx w K mg A)(G_words_of:FnOk P w K mg base CX0 1 A.a_words_of A.d_words_of ["numbers"] u_g)(n:Nat)(G_words_of_saying:FnOk P w K mg base CX0 (n+2) A.a_words_of_saying A.d_words_of_saying ["saying"] (p_k n)):FnOk P w K mg base CX0 (n+3) A.a_words_of_saying A.d_words_of_saying ["saying"] (p_k (n+1)):=by
 refine T.F_words_of_saying.ok sc_words_of_saying (fun vs H Q E h=>?_) (fun cdv A' outer s H vs Q E hr h=>?_)
 ·obtain ⟨d,v,rfl,hpc,h40,hD,q⟩:=h
  rfl
 obtain ⟨d,v,rfl,hpc,h40,hD,q⟩:=h
 obtain ⟨kvs,D_FORMS,hkeys,hkvs⟩:=T.D_FORMS
 refine ⟨_,(z_d (z_p (i:=1) sc_words_of_saying.nd rfl (Or.inl rfl) (z_j z_n (pv 0) z_f (fun _ _=>rfl)))
  (z_d (y_d (z_o y_q (pv 1) z_k (nomark _)) (z_g (z_l (y_u (z_a (z_j z_n (pv 0) z_f (fun _ _=>rfl)) z_b)))) z_q)
  (z_d (y_d (z_o y_q (pv 1) z_k (nomark _)) (z_g (z_l (y_u (z_a (z_u y_i (z_u y_i (z_y y_t rfl T.str PyProof.Rows.boot_str (z_a (z_j z_n (pv 0) z_f (fun _ _=>rfl)) z_b)) z_k) (z_y y_t rfl T.str PyProof.Rows.boot_str (z_a (z_j z_n (pv 0) z_f (fun _ _=>rfl)) z_b))) z_b)))) z_q)
  (z_d (z_p (i:=2) sc_words_of_saying.nd rfl (Or.inl rfl) (z_j z_n (z_j (p_u D_FORMS) (y_y (v:=.ref A.a_FORMS) rfl T.g_FORMS rfl) (pv 1) (fun _ _=>rfl)) z_f (fun _ _=>rfl)))
  (z_d (y_d (z_o y_q (pv 1) z_k (nomark _)) (z_g (z_p (i:=3) sc_words_of_saying.nd rfl (Or.inl rfl) (z_u u_h (y_u (z_a (pv 1) (z_a (z_y y_t rfl T.str PyProof.Rows.boot_str (z_a (z_j z_n (pv 0) z_f (fun _ _=>rfl)) z_b)) (z_a (z_y y_t rfl T.str PyProof.Rows.boot_str (z_a (z_i z_w rfl T.len PySem.boot_len (z_a (z_j z_n (pv 0) z_f (fun _ _=>rfl)) z_b)) z_b)) z_b)))) (z_h G_words_of (hr.mono (by first | decide | lia)) rfl T.M_words_of T.F_words_of.kp T.B_words_of .nil pass0 (z_a (z_j z_n (pv 0) z_f (fun _ _=>rfl)) z_b))))) (z_g (z_p (i:=3) sc_words_of_saying.nd rfl (Or.inl rfl) (z_u u_h (y_u (z_a (pv 1) z_b)) (z_h G_words_of (hr.mono (by first | decide | lia)) rfl T.M_words_of T.F_words_of.kp T.B_words_of .nil pass0 (z_a (y_s u_e (pv 0) (y_p z_f) (y_p (pv 2))) z_b))))))
  (z_d (x_j PassesOwn.never rfl (w_b (y_s u_e (pv 0) (y_p (pv 2)) w_d)) (y_g (i:=4) sc_words_of_saying.nd rfl (Or.inl rfl))
    (z_g (y_z (w_t PySem.F.plainAttrs_list PySem.F.slot_list_extend PySem.F.type_list_extend u_l (pv 3) (z_a (z_h G_words_of_saying (hr.mono (by first | decide | lia)) rfl T.M_words_of_saying T.F_words_of_saying.kp T.B_words_of_saying .nil pass0 (z_a (pv 4) z_b)) z_b)))))
  (z_g (z_l (pv 3))))))))),?_⟩
 have hlen:=x_z hpc
 have hv:=u_d hpc
 obtain ⟨z,r,rfl,hz,hl,hre,hs⟩:=w_r hpc
 obtain ⟨p,xs,rfl,hp,hx⟩:=hD.tupI
 obtain ⟨x0,r0,rfl,h0,hy0⟩:=hx.consI
 clear hx
 cases (show x0 = .str z by unfold Dat at h0;exact h0)
 have lx:=hy0.length
 have hk:=u_k z
 refine ⟨_,rfl,p,_,_,_,rfl,rfl,SqT.of hp,(show atI _ ((0:Nat):Int)=_ from z_t rfl),?_⟩
 dsimp only [gName]
 refine ⟨_,rfl,rfl,_,rfl,?_⟩
 by_cases c1:z = "wire"
 ·subst c1
  obtain ⟨x,rfl,okx⟩:=t_p hl hre
  obtain ⟨x1,r1,rfl,h1,hy1⟩:=hy0.consI
  cases hy1.nilI
  cases (show x1 = .str x by unfold Dat at h1;exact h1)
  exact y_b (decide_eq_true rfl) ⟨_,rfl,p,_,_,_,rfl,rfl,SqT.of hp,rfl,zl1,fun p2 hp2=>q p2 _ hp2 (z_e hp2 _) z_c⟩
 refine z_s (decide_eq_false (fun h=>c1 (by injection h))) ?_
 refine ⟨_,rfl,rfl,_,rfl,?_⟩
 by_cases c2:z = "number"
 ·subst c2
  obtain ⟨a,b,rfl,b1,b8,ha⟩:=s_r hl hre
  obtain ⟨x1,r1,rfl,h1,hy1⟩:=hy0.consI
  obtain ⟨x2,r2,rfl,h2,hy2⟩:=hy1.consI
  cases hy2.nilI
  cases h1.intI
  cases h2.intI
  have na:=w_i (n:=a) (by lia)
  have nb:=w_i (n:=b) (by lia)
  refine y_b (decide_eq_true rfl) ⟨_,rfl,p,_,_,_,rfl,rfl,SqT.of hp,rfl,_,rfl,x_f ha,_,_,rfl,rfl,small (by show (nw a).length+1<=_;lia),_,rfl,p,_,_,_,rfl,rfl,SqT.of hp,rfl,_,rfl,x_f (by lia),_,_,rfl,rfl,small (by rw [PySem.Str.length_append];show (nw a).length+1+(nw b).length<=_;lia),zl1,fun p2 hp2=>q p2 _ hp2 (z_e hp2 _) ?_⟩
  rw [s_s,z_c]
  rfl
 refine z_s (decide_eq_false (fun h=>c2 (by injection h))) ?_
 obtain ⟨pf,hlk,hpf⟩:=hkvs z hz
 refine ⟨_,rfl,_,_,rfl,rfl,hlk,pf,_,_,_,rfl,rfl,hpf H,rfl,?_⟩
 dsimp only [gName]
 have hkr:formK z<=r0.length+1:=by
  have:formK z<=formN z:=by
   have:∀ z∈words,formK z<=formN z:=by decide
   exact this z hz
  lia
 refine seq_mid (fun σ J=>∃ (p3:Addr) (ws:List Str),σ=[some (.ref p),some (.str z),some (.int ((formK z:Nat):Int)),some (.ref p3),none]/\H p3=none/\Same H J/\J p3=some (.lst (sV ws))/\sayW (n+1) (.tuple (.str z::r))=ws++(r.drop (formK z-1)).flatMap (sayW n)) (fun D hD'=>?_) ?_
 ·refine ⟨_,rfl,rfl,_,rfl,?_⟩
  by_cases c3:z = "table"
  ·subst c3
   obtain ⟨w,ns,s,rfl,w1,w8,l1,l16,hns⟩:=v_u hl hre
   obtain ⟨x1,r1,rfl,h1,hy1⟩:=hy0.consI
   obtain ⟨x2,r2,rfl,h2,hy2⟩:=hy1.consI
   obtain ⟨x3,r3,rfl,h3,hy3⟩:=hy2.consI
   cases hy3.nilI
   cases h1.intI
   obtain ⟨p2,ys,rfl,hp2,hy⟩:=h2.tupI
   cases datsN hy
   refine y_b (decide_eq_true rfl) ⟨_,rfl,_,rfl,p,_,_,_,rfl,rfl,SqT.of hp,rfl,_,rfl,x_f (by lia),_,rfl,p,_,_,_,rfl,rfl,SqT.of hp,rfl,_,_,rfl,.inr ⟨_,SqT.of hp2,rfl⟩,_,rfl,x_f (by rw [u_m];lia),zl3,fun p4 hp4=>?_⟩
   have t4:=z_e hp4 (.lst [.str "table",.str (nw w),.str (nw (nV ns).length)])
   refine ⟨_,rfl,p,_,_,_,rfl,rfl,SqT.of (t4 _ _ hp),rfl,p2,ns,rfl,t4 _ _ hp2,fun n hn=>by have:=hns n hn;lia,by lia,fun p5 hp5=>?_⟩
   have t5:=z_e hp5 (.lst (sV (ns.map nw)))
   refine ⟨p4,p5,_,_,rfl,rfl,t5 _ _ z_c,z_c,small (by rw [z_z,List.length_map];show 3+ns.length<=_;lia),fun p6 hp6=>?_⟩
   have hp6H:=(t4.trans t5).free hp6
   refine hD' _ _ ⟨p6,(["table",nw w,nw ns.length]:List Str)++ns.map nw,rfl,hp6H,(t4.trans t5).trans (z_e hp6 _),?_,?_⟩
   ·rw [z_c,u_m]
    unfold sV
    rw [List.map_append]
    rfl
   ·rw [t_b]
    show _=_++[s].flatMap (sayW n)
    simp
  ·obtain ⟨ns,e,hkn,hns⟩:=r_i hz c1 c2 c3 hl hre
   refine z_s (decide_eq_false (fun h=>c3 (by injection h))) ⟨_,rfl,zl1,fun p4 hp4=>?_⟩
   have t4:=z_e hp4 (.lst [.str z])
   refine ⟨_,rfl,_,rfl,_,rfl,_,rfl,p,_,rfl,t4 _ _ hp,fun p5 H5 s5 f5=>?_⟩
   rw [cut_hd hk.1 hkr] at f5
   have hnv:=datsN (by rw [<-e];exact hy0.take (formK z-1))
   rw [hnv] at f5
   have t45:=t4.trans s5
   refine ⟨p5,ns,rfl,f5,fun n hn=>by have:=hns n hn;lia,by lia,fun p6 hp6=>?_⟩
   have t6:=z_e hp6 (.lst (sV (ns.map nw)))
   refine ⟨p4,p6,_,_,rfl,rfl,t6 _ _ (s5 _ _ z_c),z_c,small (by rw [z_z,List.length_map];show 1+ns.length<=_;lia),fun p7 hp7=>?_⟩
   have hp7H:=(t45.trans t6).free hp7
   refine hD' _ _ ⟨p7,z::ns.map nw,rfl,hp7H,(t45.trans t6).trans (z_e hp7 _),?_,t_z c1 c2 c3 e⟩
   rw [z_c]
   rfl
 rintro σ J ⟨p3,ws,rfl,hp3,sJ,f3,eW⟩
 have hp3J:=f3
 refine ⟨_,rfl,_,rfl,_,rfl,p,_,rfl,sJ _ _ hp,fun pt J1 s1 ft=>?_⟩
 rw [cut_sub hk.1 hkr] at ft
 have hxd:=(hy0.drop (formK z-1))
 have lxd:=hxd.length
 rw [List.length_drop,List.length_drop] at lxd
 have s01:=sJ.trans s1
 have npt:pt≠p3:=fun e=>by rw [e,s1 _ _ f3] at ft;cases ft
 generalize hL:r.drop (formK z-1)=L at eW hs hxd
 generalize hX:r0.drop (formK z-1)=X at ft hxd
 have lX:=hxd.length
 have hlen2:ws.length+(L.flatMap (sayW n)).length<=19*40:=by
  rw [eW,List.length_append] at hlen
  lia
 have h40':∀ x∈L,pcs n x<=40:=fun x hx=>by
  have h1:=t_c (List.mem_map_of_mem (f:=pcs n) hx)
  have e:subD (.tuple (.str z::r))=L:=hL
  rw [e] at hv
  lia
 refine ⟨pt,rfl,⟨_,SqT.of ft⟩,v_m (xs:=X) (fun i σ J=>∃ (x4:Option V),σ=[some (.ref p),some (.str z),some (.int ((formK z:Nat):Int)),some (.ref p3),x4]/\Same H J/\J pt=some (.tup X)/\J p3=some (.lst (sV (ws++(L.take i).flatMap (sayW n))))) ⟨_,rfl,s01,ft,by rw [List.take_zero,List.flatMap_nil,List.append_nil];exact s1 _ _ f3⟩ ?_ ?_ ?_⟩
 ·rintro i σ J' _ ⟨_,_,_,h,_⟩
  exact SqT.of h
 ·rintro i x σ J2 hxi ⟨x4,rfl,s2,ft2,f32⟩
  obtain ⟨d,hd,hdv⟩:=hxd.get hxi
  have hmem:=List.mem_of_getElem? hd
  refine ⟨_,rfl,.inl ⟨rfl,_,SqL.of f32⟩,_,rfl,d,x,rfl,hs d hmem,h40' d hmem,hdv.same s2,fun p5 J3 hp5 s3 f5=>?_⟩
  have et:(L.take (i+1)).flatMap (sayW n)=(L.take i).flatMap (sayW n)++sayW n d:=by
   rw [y_f hd,List.flatMap_append]
   simp
  have f33:=s3 _ _ f32
  have hle:((L.take (i+1)).flatMap (sayW n)).length<=(L.flatMap (sayW n)).length:=by
   have:L.flatMap (sayW n)=(L.take (i+1)).flatMap (sayW n)++(L.drop (i+1)).flatMap (sayW n):=by rw [<-List.flatMap_append,List.take_append_drop]
   rw [this,List.length_append]
   lia
  rw [et,List.length_append] at hle
  refine ⟨p3,p5,_,_,rfl,rfl,f33,f5,small (by rw [z_z,z_z,List.length_append];lia),?_⟩
  refine ⟨_,rfl,x_y (s2.trans s3) hp3 _,?_,?_⟩
  ·rw [y_a npt]
   exact s3 _ _ ft2
  ·rw [z_c,et,<-List.append_assoc]
   unfold sV
   rw [List.map_append (l₁:=ws++_)]
 rintro σ J2 ⟨x4,rfl,s2,ft2,f32⟩
 rw [<-lX,List.take_length,<-eW] at f32
 exact ⟨_,rfl,q p3 J2 hp3 s2 f32⟩
theorem r_e(T:Tx w K mg A)(G_words_of_saying:FnOk P w K mg base CX0 9 A.a_words_of_saying A.d_words_of_saying ["saying"] (p_k 6))(G_words_of:FnOk P w K mg base CX0 1 A.a_words_of A.d_words_of ["numbers"] u_g):FnOk P w K mg base CX0 10 A.a_words_of_row A.d_words_of_row ["row"] i_w:=by
 refine T.F_words_of_row.ok sc_words_of_row (fun vs H Q E h=>?_) (fun cdv A' outer s H vs Q E hr h=>?_)
 ·obtain ⟨r,v,rfl,ok,h800,hD,q⟩:=h
  rfl
 obtain ⟨r,v,rfl,ok,h800,hD,q⟩:=h
 refine ⟨_,(z_d (y_d (z_o v_t (z_j z_n (pv 0) z_f (fun _ _=>rfl)) (y_k (z_a z_k (z_a z_k z_b))) rfl) (z_g (z_l (z_u u_h (z_u u_h (z_u u_h (y_u (z_a (z_j z_n (pv 0) z_f (fun _ _=>rfl)) (z_a (z_j z_n (pv 0) z_f (fun _ _=>rfl)) z_b))) (z_h G_words_of (hr.mono (by first | decide | lia)) rfl T.M_words_of T.F_words_of.kp T.B_words_of .nil pass0 (z_a (y_s u_e (pv 0) (y_p z_f) (y_p (o_i s_n z_f))) z_b))) (y_u (z_a z_k z_b))) (z_h G_words_of_saying (hr.mono (by first | decide | lia)) rfl T.M_words_of_saying T.F_words_of_saying.kp T.B_words_of_saying .nil pass0 (z_a (z_j z_n (pv 0) (o_i s_n z_f) (fun _ _=>rfl)) z_b))))) z_q)
  (z_d (z_p (i:=1) sc_words_of_row.nd rfl (Or.inl rfl) (pe_ifExp (z_o y_q (z_j z_n (pv 0) z_f (fun _ _=>rfl)) z_k (nomark _)) (y_u (z_a z_k z_b)) (y_u (z_a z_k (z_a (z_y y_t rfl T.str PyProof.Rows.boot_str (z_a (z_j z_n (pv 0) z_f (fun _ _=>rfl)) z_b)) z_b)))))
  (z_d (z_p (i:=2) sc_words_of_row.nd rfl (Or.inl rfl) (z_u u_h (z_u u_h (z_u u_h (pv 1) (y_u (z_a (z_j z_n (pv 0) (o_i s_n z_f) (fun _ _=>rfl)) (z_a (z_j z_n (pv 0) (o_i s_n z_f) (fun _ _=>rfl)) z_b)))) (z_y s_i rfl T.list PyProof.Rows.boot_list (z_a (z_j z_n (pv 0) (o_i s_n z_f) (fun _ _=>rfl)) z_b))) (y_u (z_a z_k z_b))))
  (z_d (x_j PassesOwn.never rfl (w_b (z_j z_n (pv 0) (o_i s_n z_f) (fun _ _=>rfl))) (y_g (i:=3) sc_words_of_row.nd rfl (Or.inl rfl))
    (z_g (y_z (w_t PySem.F.plainAttrs_list PySem.F.slot_list_extend PySem.F.type_list_extend u_l (pv 2) (z_a (z_h G_words_of_saying (hr.mono (by first | decide | lia)) rfl T.M_words_of_saying T.F_words_of_saying.kp T.B_words_of_saying .nil pass0 (z_a (pv 3) z_b)) z_b)))))
  (z_g (z_l (pv 2))))))),?_⟩
 cases r with
 | wire n w s =>
  obtain ⟨k1,k2,k3,k4⟩:=ok
  obtain ⟨pa,xs,rfl,hp,hx⟩:=hD.tupI
  obtain ⟨x0,r0,rfl,h0,hx⟩:=hx.consI
  obtain ⟨x1,r1,rfl,h1,hx⟩:=hx.consI
  obtain ⟨x2,r2,rfl,h2,hx⟩:=hx.consI
  obtain ⟨x3,r3,rfl,h3,hx⟩:=hx.consI
  cases hx.nilI
  cases (show x0 = .str "wire" by unfold Dat at h0;exact h0)
  cases (show x1 = .str n by unfold Dat at h1;exact h1)
  cases h2.intI
  refine ⟨_,rfl,pa,_,_,_,rfl,rfl,SqT.of hp,rfl,zl2,fun pt ht=>?_⟩
  have t0:=z_e ht (.tup [.str "wire",.str "box"])
  refine ⟨pt,_,rfl,.inr (SqT.of z_c),rfl,rfl,_,rfl,y_b (by decide) ?_⟩
  generalize upd H pt (.tup [.str "wire",.str "box"])=H0 at t0 ⊢
  refine ⟨_,rfl,pa,_,_,_,rfl,rfl,SqT.of (t0 _ _ hp),rfl,_,rfl,pa,_,_,_,rfl,rfl,SqT.of (t0 _ _ hp),rfl,zl2,fun p1 hp1=>?_⟩
  have u1:=t0.trans (z_e hp1 (.lst (sV ["wire",n])))
  have f1:=z_c (H:=H0) (a:=p1) (o:=.lst (sV ["wire",n]))
  rw [show ([V.str "wire",V.str n]:List V)=sV ["wire",n] from rfl]
  generalize upd H0 p1 (.lst (sV ["wire",n]))=H1 at u1 f1 hp1 ⊢
  refine ⟨_,rfl,_,rfl,_,rfl,_,rfl,pa,_,rfl,u1 _ _ hp,fun p2 H2 s2 e2=>⟨p2,[w],rfl,e2,fun n hn=>by simp at hn;lia,Nat.le_trans (show [w].length<=2 by simp) (by decide),fun p3 hp3=>?_⟩⟩
  have t3:=z_e hp3 (.lst (sV ([w].map nw)))
  have f3:=z_c (H:=H2) (a:=p3) (o:=.lst (sV ([w].map nw)))
  generalize upd H2 p3 (.lst (sV ([w].map nw)))=H3 at t3 f3 ⊢
  have u3:=(u1.trans s2).trans t3
  refine ⟨p1,p3,_,_,rfl,rfl,t3 _ _ (s2 _ _ f1),f3,small (by rw [z_z,z_z];show 2+[w].length<=_;show _<=100000;simp),fun p4 hp4=>?_⟩
  rw [<-w_c]
  have t4:=z_e hp4 (.lst (sV ((["wire",n]:List Str)++[w].map nw)))
  have f4:=z_c (H:=H3) (a:=p4) (o:=.lst (sV ((["wire",n]:List Str)++[w].map nw)))
  generalize upd H3 p4 (.lst (sV ((["wire",n]:List Str)++[w].map nw)))=H4 at t4 f4 ⊢
  refine ⟨zl1,fun p5 hp5=>?_⟩
  have t5:=z_e hp5 (.lst (sV ["="]))
  have f5:=z_c (H:=H4) (a:=p5) (o:=.lst (sV ["="]))
  rw [show ([V.str "="]:List V)=sV ["="] from rfl]
  generalize upd H4 p5 (.lst (sV ["="]))=H5 at t5 f5 ⊢
  refine ⟨p4,p5,_,_,rfl,rfl,t5 _ _ f4,f5,small (by rw [z_z,z_z];simp),fun p6 hp6=>?_⟩
  rw [<-w_c]
  have t6:=z_e hp6 (.lst (sV ((["wire",n]:List Str)++[w].map nw++(["="]:List Str))))
  have f6:=z_c (H:=H5) (a:=p6) (o:=.lst (sV ((["wire",n]:List Str)++[w].map nw++(["="]:List Str))))
  generalize upd H5 p6 (.lst (sV ((["wire",n]:List Str)++[w].map nw++(["="]:List Str))))=H6 at t6 f6 ⊢
  have u6:=((u3.trans t4).trans t5).trans t6
  refine ⟨_,rfl,_,rfl,pa,_,_,_,rfl,rfl,SqT.of (u6 _ _ hp),rfl,s,_,rfl,k4.pcs.1,k4.pcs.2,h3.same u6,fun p7 H7 hp7 s7 f7=>?_⟩
  have h19:=x_z k4.pcs.1
  have:=k4.pcs.2
  refine ⟨p6,p7,_,_,rfl,rfl,s7 _ _ f6,f7,small (by rw [z_z,z_z];simp;lia),fun p8 hp8=>?_⟩
  rw [<-w_c]
  exact q p8 _ ((u6.trans s7).free hp8) ((u6.trans s7).trans (z_e hp8 _)) z_c
 | box n w x s =>
  obtain ⟨k1,k2,k3,kx,k4⟩:=ok
  have x256:=pow8 kx k3
  obtain ⟨pa,xs,rfl,hp,hx⟩:=hD.tupI
  obtain ⟨x0,r0,rfl,h0,hx⟩:=hx.consI
  obtain ⟨x1,r1,rfl,h1,hx⟩:=hx.consI
  obtain ⟨x2,r2,rfl,h2,hx⟩:=hx.consI
  obtain ⟨x4,r4,rfl,h4,hx⟩:=hx.consI
  obtain ⟨x3,r3,rfl,h3,hx⟩:=hx.consI
  cases hx.nilI
  cases (show x0 = .str "box" by unfold Dat at h0;exact h0)
  cases (show x1 = .str n by unfold Dat at h1;exact h1)
  cases h2.intI
  cases h4.intI
  refine ⟨_,rfl,pa,_,_,_,rfl,rfl,SqT.of hp,rfl,zl2,fun pt ht=>?_⟩
  have t0:=z_e ht (.tup [.str "wire",.str "box"])
  refine ⟨pt,_,rfl,.inr (SqT.of z_c),rfl,rfl,_,rfl,y_b (by decide) ?_⟩
  generalize upd H pt (.tup [.str "wire",.str "box"])=H0 at t0 ⊢
  refine ⟨_,rfl,pa,_,_,_,rfl,rfl,SqT.of (t0 _ _ hp),rfl,_,rfl,pa,_,_,_,rfl,rfl,SqT.of (t0 _ _ hp),rfl,zl2,fun p1 hp1=>?_⟩
  have u1:=t0.trans (z_e hp1 (.lst (sV ["box",n])))
  have f1:=z_c (H:=H0) (a:=p1) (o:=.lst (sV ["box",n]))
  rw [show ([V.str "box",V.str n]:List V)=sV ["box",n] from rfl]
  generalize upd H0 p1 (.lst (sV ["box",n]))=H1 at u1 f1 hp1 ⊢
  refine ⟨_,rfl,_,rfl,_,rfl,_,rfl,pa,_,rfl,u1 _ _ hp,fun p2 H2 s2 e2=>⟨p2,[w,x],rfl,e2,fun n hn=>by simp at hn;lia,Nat.le_trans (show [w,x].length<=2 by simp) (by decide),fun p3 hp3=>?_⟩⟩
  have t3:=z_e hp3 (.lst (sV ([w,x].map nw)))
  have f3:=z_c (H:=H2) (a:=p3) (o:=.lst (sV ([w,x].map nw)))
  generalize upd H2 p3 (.lst (sV ([w,x].map nw)))=H3 at t3 f3 ⊢
  have u3:=(u1.trans s2).trans t3
  refine ⟨p1,p3,_,_,rfl,rfl,t3 _ _ (s2 _ _ f1),f3,small (by rw [z_z,z_z];show 2+[w,x].length<=_;show _<=100000;simp),fun p4 hp4=>?_⟩
  rw [<-w_c]
  have t4:=z_e hp4 (.lst (sV ((["box",n]:List Str)++[w,x].map nw)))
  have f4:=z_c (H:=H3) (a:=p4) (o:=.lst (sV ((["box",n]:List Str)++[w,x].map nw)))
  generalize upd H3 p4 (.lst (sV ((["box",n]:List Str)++[w,x].map nw)))=H4 at t4 f4 ⊢
  refine ⟨zl1,fun p5 hp5=>?_⟩
  have t5:=z_e hp5 (.lst (sV ["="]))
  have f5:=z_c (H:=H4) (a:=p5) (o:=.lst (sV ["="]))
  rw [show ([V.str "="]:List V)=sV ["="] from rfl]
  generalize upd H4 p5 (.lst (sV ["="]))=H5 at t5 f5 ⊢
  refine ⟨p4,p5,_,_,rfl,rfl,t5 _ _ f4,f5,small (by rw [z_z,z_z];simp),fun p6 hp6=>?_⟩
  rw [<-w_c]
  have t6:=z_e hp6 (.lst (sV ((["box",n]:List Str)++[w,x].map nw++(["="]:List Str))))
  have f6:=z_c (H:=H5) (a:=p6) (o:=.lst (sV ((["box",n]:List Str)++[w,x].map nw++(["="]:List Str))))
  generalize upd H5 p6 (.lst (sV ((["box",n]:List Str)++[w,x].map nw++(["="]:List Str))))=H6 at t6 f6 ⊢
  have u6:=((u3.trans t4).trans t5).trans t6
  refine ⟨_,rfl,_,rfl,pa,_,_,_,rfl,rfl,SqT.of (u6 _ _ hp),rfl,s,_,rfl,k4.pcs.1,k4.pcs.2,h3.same u6,fun p7 H7 hp7 s7 f7=>?_⟩
  have h19:=x_z k4.pcs.1
  have:=k4.pcs.2
  refine ⟨p6,p7,_,_,rfl,rfl,s7 _ _ f6,f7,small (by rw [z_z,z_z];simp;lia),fun p8 hp8=>?_⟩
  rw [<-w_c]
  exact q p8 _ ((u6.trans s7).free hp8) ((u6.trans s7).trans (z_e hp8 _)) z_c
 | use t p z ss ns =>
  cases t with
  | none =>
   obtain ⟨k0,n1,n2,l1,l2,hss,hns⟩:=ok
   obtain ⟨pa,xs,rfl,hp,hx⟩:=hD.tupI
   obtain ⟨x0,r0,rfl,h0,hx⟩:=hx.consI
   obtain ⟨x1,r1,rfl,h1,hx⟩:=hx.consI
   obtain ⟨x2,r2,rfl,h2,hx⟩:=hx.consI
   obtain ⟨x3,r3,rfl,h3,hx⟩:=hx.consI
   obtain ⟨x4,r4,rfl,h4,hx⟩:=hx.consI
   cases hx.nilI
   cases (show x0 = .str "part" by unfold Dat at h0;exact h0)
   cases (show x1 = .str p by unfold Dat at h1;exact h1)
   cases (show x2 = .str z by unfold Dat at h2;exact h2)
   obtain ⟨ps,ys,rfl,hps,hy⟩:=h3.tupI
   obtain ⟨pn,zs,rfl,hpn,hz⟩:=h4.tupI
   cases strsD hz
   have ly:=hy.length
   refine ⟨_,rfl,pa,_,_,_,rfl,rfl,SqT.of hp,rfl,zl2,fun pt ht=>?_⟩
   have t0:=z_e ht (.tup [.str "wire",.str "box"])
   refine ⟨pt,_,rfl,.inr (SqT.of z_c),rfl,rfl,_,rfl,z_s (by decide) ?_⟩
   generalize upd H pt (.tup [.str "wire",.str "box"])=H0 at t0 ⊢
   refine ⟨_,rfl,pa,_,_,_,rfl,rfl,SqT.of (t0 _ _ hp),rfl,rfl,_,rfl,y_b (by decide) ?_⟩
   refine ⟨zl1,fun p1 hp1=>?_⟩
   rw [show ([V.str "use"]:List V)=sV (["use"]:List Str) from rfl]
   dsimp only [gName]
   have t1:=z_e hp1 (.lst (sV (["use"]:List Str)))
   have f1:=z_c (H:=H0) (a:=p1) (o:=.lst (sV (["use"]:List Str)))
   generalize upd H0 p1 (.lst (sV (["use"]:List Str)))=H1 at t1 f1 ⊢
   have u1:=t0.trans t1
   refine ⟨_,rfl,_,rfl,_,rfl,pa,_,_,_,rfl,rfl,SqT.of (u1 _ _ hp),rfl,_,rfl,_,rfl,pa,_,_,_,rfl,rfl,SqT.of (u1 _ _ hp),rfl,zl2,fun p2 hp2=>?_⟩
   rw [show ([V.str p,V.str z]:List V)=sV ([p,z]:List Str) from rfl]
   have t2:=z_e hp2 (.lst (sV ([p,z]:List Str)))
   have f2:=z_c (H:=H1) (a:=p2) (o:=.lst (sV ([p,z]:List Str)))
   generalize upd H1 p2 (.lst (sV ([p,z]:List Str)))=H2 at t2 f2 ⊢
   have u2:=u1.trans t2
   refine ⟨p1,p2,_,_,rfl,rfl,t2 _ _ f1,f2,small (by rw [z_z,z_z];simp),fun p3 hp3=>?_⟩
   rw [<-w_c]
   have t3:=z_e hp3 (.lst (sV ((["use"]:List Str)++([p,z]:List Str))))
   have f3:=z_c (H:=H2) (a:=p3) (o:=.lst (sV ((["use"]:List Str)++([p,z]:List Str))))
   generalize upd H2 p3 (.lst (sV ((["use"]:List Str)++([p,z]:List Str))))=H3 at t3 f3 ⊢
   have u3:=u2.trans t3
   refine ⟨_,rfl,_,rfl,pa,_,_,_,rfl,rfl,SqT.of (u3 _ _ hp),rfl,pn,_,rfl,.inr (SqT.of (u3 _ _ hpn)),fun p4 hp4=>?_⟩
   have t4:=z_e hp4 (.lst (sV ns))
   have f4:=z_c (H:=H3) (a:=p4) (o:=.lst (sV ns))
   generalize upd H3 p4 (.lst (sV ns))=H4 at t4 f4 ⊢
   have u4:=u3.trans t4
   refine ⟨p3,p4,_,_,rfl,rfl,t4 _ _ f3,f4,small (by rw [z_z,z_z];simp;lia),fun p5 hp5=>?_⟩
   rw [<-w_c]
   have t5:=z_e hp5 (.lst (sV ((["use"]:List Str)++([p,z]:List Str)++ns)))
   have f5:=z_c (H:=H4) (a:=p5) (o:=.lst (sV ((["use"]:List Str)++([p,z]:List Str)++ns)))
   generalize upd H4 p5 (.lst (sV ((["use"]:List Str)++([p,z]:List Str)++ns)))=H5 at t5 f5 ⊢
   have u5:=u4.trans t5
   refine ⟨zl1,fun p6 hp6=>?_⟩
   rw [show ([V.str "="]:List V)=sV (["="]:List Str) from rfl]
   have t6:=z_e hp6 (.lst (sV (["="]:List Str)))
   have f6:=z_c (H:=H5) (a:=p6) (o:=.lst (sV (["="]:List Str)))
   generalize upd H5 p6 (.lst (sV (["="]:List Str)))=H6 at t6 f6 ⊢
   have u6:=u5.trans t6
   refine ⟨p5,p6,_,_,rfl,rfl,t6 _ _ f5,f6,small (by rw [z_z,z_z];simp;lia),fun p7 hp7=>?_⟩
   rw [<-w_c]
   have hp7H:=u6.free hp7
   dsimp only [gName]
   have t7:=z_e hp7 (.lst (sV ((["use"]:List Str)++([p,z]:List Str)++ns++(["="]:List Str))))
   have f7:=z_c (H:=H6) (a:=p7) (o:=.lst (sV ((["use"]:List Str)++([p,z]:List Str)++ns++(["="]:List Str))))
   generalize upd H6 p7 (.lst (sV ((["use"]:List Str)++([p,z]:List Str)++ns++(["="]:List Str))))=H7 at t7 f7 ⊢
   have u7:=u6.trans t7
   have eW:PRw.ws (.use none p z ss ns)=((["use"]:List Str)++([p,z]:List Str)++ns++(["="]:List Str))++ss.flatMap (sayW 6):=rfl
   rw [eW] at q h800
   generalize ((["use"]:List Str)++([p,z]:List Str)++ns++(["="]:List Str))=ws at f7 q h800 ⊢
   rw [List.length_append] at h800
   have nps:ps≠p7:=fun e=>by rw [e,hp7H] at hps;cases hps
   refine ⟨_,rfl,_,rfl,pa,_,_,_,rfl,rfl,SqT.of (u7 _ _ hp),rfl,ps,rfl,⟨_,SqT.of (u7 _ _ hps)⟩,v_m (xs:=ys) (fun i σ J=>∃ (x3:Option V),σ=[some (.ref pa),some (.ref p1),some (.ref p7),x3]/\Same H J/\J p7=some (.lst (sV (ws++(ss.take i).flatMap (sayW 6))))) ⟨_,rfl,u7,by rw [List.take_zero,List.flatMap_nil,List.append_nil];exact f7⟩ ?_ ?_ ?_⟩
   ·rintro i σ J' _ ⟨_,_,sJ,_⟩
    exact SqT.of (sJ _ _ hps)
   ·rintro i x σ J2 hxi ⟨x4,rfl,s2,f32⟩
    obtain ⟨d,hd,hdv⟩:=hy.get hxi
    have okd:=(hss d (List.mem_of_getElem? hd)).pcs
    refine ⟨_,rfl,.inl ⟨rfl,_,SqL.of f32⟩,_,rfl,d,x,rfl,okd.1,okd.2,hdv.same s2,fun p8 J3 hp8 s3 f8=>?_⟩
    have et:(ss.take (i+1)).flatMap (sayW 6)=(ss.take i).flatMap (sayW 6)++sayW 6 d:=by
     rw [y_f hd,List.flatMap_append]
     simp
    have hle:((ss.take (i+1)).flatMap (sayW 6)).length<=(ss.flatMap (sayW 6)).length:=by
     have:ss.flatMap (sayW 6)=(ss.take (i+1)).flatMap (sayW 6)++(ss.drop (i+1)).flatMap (sayW 6):=by rw [<-List.flatMap_append,List.take_append_drop]
     rw [this,List.length_append]
     lia
    rw [et,List.length_append] at hle
    refine ⟨p7,p8,_,_,rfl,rfl,s3 _ _ f32,f8,small (by rw [z_z,z_z,List.length_append];lia),?_⟩
    refine ⟨_,rfl,x_y (s2.trans s3) hp7H _,?_⟩
    rw [z_c,et,<-List.append_assoc,w_c (ws++_)]
   rintro σ J2 ⟨x4,rfl,s2,f32⟩
   rw [<-ly,List.take_length] at f32
   exact ⟨_,rfl,q p7 J2 hp7H s2 f32⟩
  | some t =>
   obtain ⟨k0,n1,n2,l1,l2,hss,hns⟩:=ok
   obtain ⟨pa,xs,rfl,hp,hx⟩:=hD.tupI
   obtain ⟨x0,r0,rfl,h0,hx⟩:=hx.consI
   obtain ⟨x9,r9,rfl,h9,hx⟩:=hx.consI
   obtain ⟨x1,r1,rfl,h1,hx⟩:=hx.consI
   obtain ⟨x2,r2,rfl,h2,hx⟩:=hx.consI
   obtain ⟨x3,r3,rfl,h3,hx⟩:=hx.consI
   obtain ⟨x4,r4,rfl,h4,hx⟩:=hx.consI
   cases hx.nilI
   cases (show x0 = .str "times" by unfold Dat at h0;exact h0)
   cases (show x1 = .str p by unfold Dat at h1;exact h1)
   cases (show x2 = .str z by unfold Dat at h2;exact h2)
   obtain ⟨ps,ys,rfl,hps,hy⟩:=h3.tupI
   obtain ⟨pn,zs,rfl,hpn,hz⟩:=h4.tupI
   cases strsD hz
   have ly:=hy.length
   cases h9.intI
   have t8:=(k0 t rfl).2
   refine ⟨_,rfl,pa,_,_,_,rfl,rfl,SqT.of hp,rfl,zl2,fun pt ht=>?_⟩
   have t0:=z_e ht (.tup [.str "wire",.str "box"])
   refine ⟨pt,_,rfl,.inr (SqT.of z_c),rfl,rfl,_,rfl,z_s (by decide) ?_⟩
   generalize upd H pt (.tup [.str "wire",.str "box"])=H0 at t0 ⊢
   refine ⟨_,rfl,pa,_,_,_,rfl,rfl,SqT.of (t0 _ _ hp),rfl,rfl,_,rfl,z_s (by decide) ?_⟩
   refine ⟨_,rfl,pa,_,_,_,rfl,rfl,SqT.of (t0 _ _ hp),rfl,_,rfl,x_f (by lia),zl2,fun p1 hp1=>?_⟩
   rw [show ([V.str "times",V.str (Str.ofString (toString (t:Int)))]:List V)=sV (["times",nw t]:List Str) from rfl]
   dsimp only [gName]
   have t1:=z_e hp1 (.lst (sV (["times",nw t]:List Str)))
   have f1:=z_c (H:=H0) (a:=p1) (o:=.lst (sV (["times",nw t]:List Str)))
   generalize upd H0 p1 (.lst (sV (["times",nw t]:List Str)))=H1 at t1 f1 ⊢
   have u1:=t0.trans t1
   refine ⟨_,rfl,_,rfl,_,rfl,pa,_,_,_,rfl,rfl,SqT.of (u1 _ _ hp),rfl,_,rfl,_,rfl,pa,_,_,_,rfl,rfl,SqT.of (u1 _ _ hp),rfl,zl2,fun p2 hp2=>?_⟩
   rw [show ([V.str p,V.str z]:List V)=sV ([p,z]:List Str) from rfl]
   have t2:=z_e hp2 (.lst (sV ([p,z]:List Str)))
   have f2:=z_c (H:=H1) (a:=p2) (o:=.lst (sV ([p,z]:List Str)))
   generalize upd H1 p2 (.lst (sV ([p,z]:List Str)))=H2 at t2 f2 ⊢
   have u2:=u1.trans t2
   refine ⟨p1,p2,_,_,rfl,rfl,t2 _ _ f1,f2,small (by rw [z_z,z_z];simp),fun p3 hp3=>?_⟩
   rw [<-w_c]
   have t3:=z_e hp3 (.lst (sV ((["times",nw t]:List Str)++([p,z]:List Str))))
   have f3:=z_c (H:=H2) (a:=p3) (o:=.lst (sV ((["times",nw t]:List Str)++([p,z]:List Str))))
   generalize upd H2 p3 (.lst (sV ((["times",nw t]:List Str)++([p,z]:List Str))))=H3 at t3 f3 ⊢
   have u3:=u2.trans t3
   refine ⟨_,rfl,_,rfl,pa,_,_,_,rfl,rfl,SqT.of (u3 _ _ hp),rfl,pn,_,rfl,.inr (SqT.of (u3 _ _ hpn)),fun p4 hp4=>?_⟩
   have t4:=z_e hp4 (.lst (sV ns))
   have f4:=z_c (H:=H3) (a:=p4) (o:=.lst (sV ns))
   generalize upd H3 p4 (.lst (sV ns))=H4 at t4 f4 ⊢
   have u4:=u3.trans t4
   refine ⟨p3,p4,_,_,rfl,rfl,t4 _ _ f3,f4,small (by rw [z_z,z_z];simp;lia),fun p5 hp5=>?_⟩
   rw [<-w_c]
   have t5:=z_e hp5 (.lst (sV ((["times",nw t]:List Str)++([p,z]:List Str)++ns)))
   have f5:=z_c (H:=H4) (a:=p5) (o:=.lst (sV ((["times",nw t]:List Str)++([p,z]:List Str)++ns)))
   generalize upd H4 p5 (.lst (sV ((["times",nw t]:List Str)++([p,z]:List Str)++ns)))=H5 at t5 f5 ⊢
   have u5:=u4.trans t5
   refine ⟨zl1,fun p6 hp6=>?_⟩
   rw [show ([V.str "="]:List V)=sV (["="]:List Str) from rfl]
   have t6:=z_e hp6 (.lst (sV (["="]:List Str)))
   have f6:=z_c (H:=H5) (a:=p6) (o:=.lst (sV (["="]:List Str)))
   generalize upd H5 p6 (.lst (sV (["="]:List Str)))=H6 at t6 f6 ⊢
   have u6:=u5.trans t6
   refine ⟨p5,p6,_,_,rfl,rfl,t6 _ _ f5,f6,small (by rw [z_z,z_z];simp;lia),fun p7 hp7=>?_⟩
   rw [<-w_c]
   have hp7H:=u6.free hp7
   dsimp only [gName]
   have t7:=z_e hp7 (.lst (sV ((["times",nw t]:List Str)++([p,z]:List Str)++ns++(["="]:List Str))))
   have f7:=z_c (H:=H6) (a:=p7) (o:=.lst (sV ((["times",nw t]:List Str)++([p,z]:List Str)++ns++(["="]:List Str))))
   generalize upd H6 p7 (.lst (sV ((["times",nw t]:List Str)++([p,z]:List Str)++ns++(["="]:List Str))))=H7 at t7 f7 ⊢
   have u7:=u6.trans t7
   have eW:PRw.ws (.use (some t) p z ss ns)=((["times",nw t]:List Str)++([p,z]:List Str)++ns++(["="]:List Str))++ss.flatMap (sayW 6):=rfl
   rw [eW] at q h800
   generalize ((["times",nw t]:List Str)++([p,z]:List Str)++ns++(["="]:List Str))=ws at f7 q h800 ⊢
   rw [List.length_append] at h800
   have nps:ps≠p7:=fun e=>by rw [e,hp7H] at hps;cases hps
   refine ⟨_,rfl,_,rfl,pa,_,_,_,rfl,rfl,SqT.of (u7 _ _ hp),rfl,ps,rfl,⟨_,SqT.of (u7 _ _ hps)⟩,v_m (xs:=ys) (fun i σ J=>∃ (x3:Option V),σ=[some (.ref pa),some (.ref p1),some (.ref p7),x3]/\Same H J/\J p7=some (.lst (sV (ws++(ss.take i).flatMap (sayW 6))))) ⟨_,rfl,u7,by rw [List.take_zero,List.flatMap_nil,List.append_nil];exact f7⟩ ?_ ?_ ?_⟩
   ·rintro i σ J' _ ⟨_,_,sJ,_⟩
    exact SqT.of (sJ _ _ hps)
   ·rintro i x σ J2 hxi ⟨x4,rfl,s2,f32⟩
    obtain ⟨d,hd,hdv⟩:=hy.get hxi
    have okd:=(hss d (List.mem_of_getElem? hd)).pcs
    refine ⟨_,rfl,.inl ⟨rfl,_,SqL.of f32⟩,_,rfl,d,x,rfl,okd.1,okd.2,hdv.same s2,fun p8 J3 hp8 s3 f8=>?_⟩
    have et:(ss.take (i+1)).flatMap (sayW 6)=(ss.take i).flatMap (sayW 6)++sayW 6 d:=by
     rw [y_f hd,List.flatMap_append]
     simp
    have hle:((ss.take (i+1)).flatMap (sayW 6)).length<=(ss.flatMap (sayW 6)).length:=by
     have:ss.flatMap (sayW 6)=(ss.take (i+1)).flatMap (sayW 6)++(ss.drop (i+1)).flatMap (sayW 6):=by rw [<-List.flatMap_append,List.take_append_drop]
     rw [this,List.length_append]
     lia
    rw [et,List.length_append] at hle
    refine ⟨p7,p8,_,_,rfl,rfl,s3 _ _ f32,f8,small (by rw [z_z,z_z,List.length_append];lia),?_⟩
    refine ⟨_,rfl,x_y (s2.trans s3) hp7H _,?_⟩
    rw [z_c,et,<-List.append_assoc,w_c (ws++_)]
   rintro σ J2 ⟨x4,rfl,s2,f32⟩
   rw [<-ly,List.take_length] at f32
   exact ⟨_,rfl,q p7 J2 hp7H s2 f32⟩
theorem o_a(T:Tx w K mg A)(G_text_of:FnOk P w K mg base CX0 1 A.a_text_of A.d_text_of ["rows"] r_v)(G_words_of_row:FnOk P w K mg base CX0 10 A.a_words_of_row A.d_words_of_row ["row"] i_w):FnOk P w K mg base CX0 11 A.a_plan_text A.d_plan_text ["plan"] l_d:=by
 refine T.F_plan_text.ok sc_plan_text (fun vs H Q E h=>?_) (fun cdv A' outer s H vs Q E hr h=>?_)
 ·obtain ⟨l,ps,xs,rfl,ok,tok,hl,hD,q⟩:=h
  rfl
 obtain ⟨l,ps,xs,rfl,ok,tok,hl,hD,q⟩:=h
 refine ⟨_,(z_d (z_p (i:=1) sc_plan_text.nd rfl (Or.inl rfl) (y_u z_b))
  (z_d (x_j PassesOwn.never rfl (x_s (pv 0)) (y_g (i:=2) sc_plan_text.nd rfl (Or.inl rfl))
    (z_d (y_z (w_t PySem.F.plainAttrs_list PySem.F.slot_list_append PySem.F.type_list_append x_e (pv 1) (z_a (y_u (z_a z_k (z_a (z_j z_n (pv 2) z_f (fun _ _=>rfl)) z_b))) z_b)))
  (z_d (y_z (w_t PySem.F.plainAttrs_list PySem.F.slot_list_extend PySem.F.type_list_extend u_l (pv 1) (z_a (y_o [] (fun _ _ h=>h) rfl (w_b (z_j z_n (pv 2) z_f (fun _ _=>rfl))) (fun _ _ _ _=>y_m) (fun _ _ _ _=>(y_u (z_a z_k (z_a (z_j (q_n (K:=K) rfl) (pv 0) z_f (fun _ _=>rfl)) (z_a (z_y y_t rfl T.str PyProof.Rows.boot_str (z_a (z_j (q_n (K:=K) rfl) (pv 0) z_f (fun _ _=>rfl)) z_b)) z_b))))) rfl (show ∀ j∈([]:List Nat),j<3 by decide) (show (["port"]:List Str).Nodup by decide +kernel)) z_b)))
  (z_d (y_z (w_t PySem.F.plainAttrs_list PySem.F.slot_list_extend PySem.F.type_list_extend u_l (pv 1) (z_a (y_o [] (fun _ _ h=>h) rfl (w_b (z_j z_n (pv 2) z_f (fun _ _=>rfl))) (fun _ _ _ _=>y_m) (fun _ _ _ _=>(y_u (z_a z_k (z_a (z_j (q_n (K:=K) rfl) (pv 0) z_f (fun _ _=>rfl)) (z_a (z_y y_t rfl T.str PyProof.Rows.boot_str (z_a (z_j (q_n (K:=K) rfl) (pv 0) z_f (fun _ _=>rfl)) z_b)) z_b))))) rfl (show ∀ j∈([]:List Nat),j<3 by decide) (show (["port"]:List Str).Nodup by decide +kernel)) z_b)))
  (z_d (y_z (w_t PySem.F.plainAttrs_list PySem.F.slot_list_extend PySem.F.type_list_extend u_l (pv 1) (z_a (y_o [] (fun _ _ h=>h) rfl (w_b (z_j z_n (pv 2) z_f (fun _ _=>rfl))) (fun _ _ _ _=>y_m) (fun _ _ _ _=>(z_h G_words_of_row (hr.mono (by first | decide | lia)) rfl T.M_words_of_row T.F_words_of_row.kp T.B_words_of_row .nil pass0 (z_a (pv 0) z_b))) rfl (show ∀ j∈([]:List Nat),j<3 by decide) (show (["row"]:List Str).Nodup by decide +kernel)) z_b)))
  (z_g (y_z (w_t PySem.F.plainAttrs_list PySem.F.slot_list_append PySem.F.type_list_append x_e (pv 1) (z_a (y_u (z_a z_k z_b)) z_b)))))))))
  (z_g (z_l (z_h G_text_of (hr.mono (by first | decide | lia)) rfl T.M_text_of T.F_text_of.kp T.B_text_of .nil pass0 (z_a (pv 1) z_b)))))),?_⟩
 have lx:=hD.length
 rw [List.length_map] at lx
 refine ⟨zl0,fun pr hpr=>?_⟩
 have t0:=z_e hpr (.lst [])
 dsimp only [gName]
 refine ⟨_,rfl,l,rfl,⟨_,SqL.of (t0 _ _ hl)⟩,u_x (xs:=xs) (fun i σ J=>∃ (x2:Option V) (rs:List Addr),σ=[some (.ref l),some (.ref pr),x2]/\Same H J/\RwA J pr rs (plnW (ps.take i))) ⟨_,[],rfl,t0,z_c,.nil⟩ ?_ ?_ ?_⟩
 ·rintro i σ J _ ⟨_,_,_,sJ,_⟩
  exact SqL.of (sJ _ _ hl)
 ·rintro i v σ J hv ⟨x2,rs0,rfl,sJ,R0⟩
  obtain ⟨d,hd,hdv⟩:=hD.get hv
  rw [List.getElem?_map] at hd
  obtain ⟨P,hP,rfl⟩:=Option.map_eq_some_iff.mp hd
  have okP:=ok P (List.mem_of_getElem? hP)
  have et:plnW (ps.take (i+1))=plnW (ps.take i)++P.ws:=by
   unfold plnW
   rw [y_f hP,List.flatMap_append]
   simp
  have hle:(plnW (ps.take (i+1))).length<=200:=by
   have h1:=tok.many
   have:plnW ps=plnW (ps.take (i+1))++plnW (ps.drop (i+1)):=by unfold plnW;rw [<-List.flatMap_append,List.take_append_drop]
   rw [this,List.length_append] at h1
   lia
  rw [et,List.length_append] at hle
  have hw8:∀ r∈P.rows,r.ws.length<=800:=fun r hr=>tok.len _ (by
   unfold plnW PPt.ws
   exact List.mem_flatMap.mpr ⟨P,List.mem_of_getElem? hP,by simp only [List.mem_append,List.mem_map];exact .inl (.inr ⟨r,hr,rfl⟩)⟩)
  have lw:P.ws.length=1+P.ins.length+P.outs.length+P.rows.length+1:=by
   unfold PPt.ws
   simp only [List.length_append,List.length_map]
   rfl
  obtain ⟨pa,zs,rfl,hp,hx⟩:=hdv.tupI
  obtain ⟨x1,r1,rfl,h1,hx⟩:=hx.consI
  obtain ⟨x2',r2,rfl,h2,hx⟩:=hx.consI
  obtain ⟨x3,r3,rfl,h3,hx⟩:=hx.consI
  obtain ⟨x4,r4,rfl,h4,hx⟩:=hx.consI
  cases hx.nilI
  cases (show x1 = .str P.name by unfold Dat at h1;exact h1)
  obtain ⟨p2,ys,rfl,hp2,hy⟩:=h2.tupI
  obtain ⟨p3,zs,rfl,hp3,hz⟩:=h3.tupI
  obtain ⟨p4,us,rfl,hp4,hu⟩:=h4.tupI
  have ly:=hy.length
  have lz:=hz.length
  have lu:=hu.length
  rw [List.length_map] at ly lz lu
  have l0:=Paired.length R0.2
  refine ⟨_,rfl,.inl ⟨rfl,_,SqL.of R0.1⟩,_,rfl,pa,_,_,_,rfl,rfl,SqT.of (sJ _ _ hp),rfl,zl2,fun p1 hp1=>⟨pr,_,_,rfl,rfl,z_e hp1 _ _ _ R0.1,y_j (by rw [List.length_map];lia),?_⟩⟩
  have R1:=R0.push (ws:=["part",P.name]) hp1
  have s1:=x_y (sJ.trans (z_e hp1 (.lst (sV ["part",P.name])))) hpr (.lst (rs0.map V.ref++[.ref p1]))
  rw [show ([V.str "part",V.str P.name]:List V)=sV ["part",P.name] from rfl]
  generalize hrs1:rs0++[p1]=rs1 at R1
  generalize upd (upd J p1 (.lst (sV ["part",P.name]))) pr (.lst (rs0.map V.ref++[.ref p1]))=J1 at R1 s1 ⊢
  clear hp1 hrs1
  refine ⟨_,rfl,.inl ⟨rfl,_,SqL.of R1.1⟩,_,rfl,pa,_,_,_,rfl,rfl,SqT.of (s1 _ _ hp),rfl,p2,rfl,⟨_,SqT.of (s1 _ _ hp2)⟩,w_e (xs:=ys) (fun k zs J'=>∃ cs:List Addr,zs=cs.map V.ref/\Same J1 J'/\Paired (fun r ws=>J1 r=none/\J' r=some (.lst (sV ws))) cs ((P.ins.map fun q=>(["in",q.1,nw q.2]:List Str)).take k)) ⟨[],rfl,Same.refl _,.nil⟩ ?_ ?_ ?_ ?_⟩
  ·rintro i zs J' _ ⟨_,_,s',_⟩
   exact SqT.of (s' _ _ (s1 _ _ hp2))
  ·rintro i zs J' hi ⟨cs,rfl,_,pr2⟩
   have:=Paired.length pr2
   rw [List.length_take] at this
   rw [List.length_map]
   exact y_j (by lia)
  ·rintro i v zs J' hv ⟨cs,rfl,s',pr2⟩
   obtain ⟨d,hd,hdv⟩:=hy.get hv
   rw [List.getElem?_map] at hd
   obtain ⟨qq,hq,rfl⟩:=Option.map_eq_some_iff.mp hd
   have okq:=okP.ins qq (List.mem_of_getElem? hq)
   obtain ⟨pd,ds,rfl,hpd,hds⟩:=hdv.tupI
   obtain ⟨d1,e1,rfl,g1,hds⟩:=hds.consI
   obtain ⟨d2,e2,rfl,g2,hds⟩:=hds.consI
   cases hds.nilI
   cases (show d1 = .str qq.1 by unfold Dat at g1;exact g1)
   cases g2.intI
   have sH:=s1.trans s'
   have:=okq.2.2
   unfold tYes
   refine iteT ⟨_,rfl,pd,_,_,_,rfl,rfl,SqT.of (sH _ _ hpd),rfl,_,rfl,pd,_,_,_,rfl,rfl,SqT.of (sH _ _ hpd),rfl,_,rfl,x_f (by lia),zl3,fun r hr=>?_⟩
   refine ⟨cs++[r],by rw [List.map_append];rfl,s'.trans (z_e hr _),?_⟩
   rw [y_f (show (P.ins.map fun q=>(["in",q.1,nw q.2]:List Str))[i]? = some (["in",qq.1,nw qq.2]:List Str) by rw [List.getElem?_map,hq];rfl)]
   exact x_o ⟨s'.free hr,z_c⟩ (y_l (fun r v y=>⟨y.1,z_e hr _ _ _ y.2⟩) pr2)
  rintro zs J' ⟨cs,rfl,s',pr2⟩ pc hpc
  rw [List.take_of_length_le (by rw [List.length_map];lia)] at pr2
  have lrs:=Paired.length R1.2
  have lr2:=Paired.length pr2
  rw [List.length_map] at lr2
  simp only [List.length_append,List.length_map,List.length_cons,List.length_nil] at lrs
  have t':=z_e hpc (.lst (cs.map V.ref))
  refine ⟨pr,pc,_,_,rfl,rfl,t' _ _ (s' _ _ R1.1),z_c,small (by rw [List.length_map,List.length_map];have:=l0;lia),?_⟩
  have R2:=R1.ext (s'.trans t') (y_l (fun r v y=>⟨y.1,t' _ _ y.2⟩) pr2)
  have s2:=x_y (s1.trans (s'.trans t')) hpr (.lst (rs1.map V.ref++cs.map V.ref))
  generalize hrs2:rs1++cs=rs2 at R2
  generalize upd (upd J' pc (.lst (cs.map V.ref))) pr (.lst (rs1.map V.ref++cs.map V.ref))=J2 at R2 s2 ⊢
  clear t' pr2 s' hpc hrs2 lr2 lrs
  refine ⟨_,rfl,.inl ⟨rfl,_,SqL.of R2.1⟩,_,rfl,pa,_,_,_,rfl,rfl,SqT.of (s2 _ _ hp),rfl,p3,rfl,⟨_,SqT.of (s2 _ _ hp3)⟩,w_e (xs:=zs) (fun k zs J'=>∃ cs:List Addr,zs=cs.map V.ref/\Same J2 J'/\Paired (fun r ws=>J2 r=none/\J' r=some (.lst (sV ws))) cs ((P.outs.map fun q=>(["out",q.1,nw q.2]:List Str)).take k)) ⟨[],rfl,Same.refl _,.nil⟩ ?_ ?_ ?_ ?_⟩
  ·rintro i zs J' _ ⟨_,_,s',_⟩
   exact SqT.of (s' _ _ (s2 _ _ hp3))
  ·rintro i zs J' hi ⟨cs,rfl,_,pr2⟩
   have:=Paired.length pr2
   rw [List.length_take] at this
   rw [List.length_map]
   exact y_j (by lia)
  ·rintro i v zs J' hv ⟨cs,rfl,s',pr2⟩
   obtain ⟨d,hd,hdv⟩:=hz.get hv
   rw [List.getElem?_map] at hd
   obtain ⟨qq,hq,rfl⟩:=Option.map_eq_some_iff.mp hd
   have okq:=okP.outs qq (List.mem_of_getElem? hq)
   obtain ⟨pd,ds,rfl,hpd,hds⟩:=hdv.tupI
   obtain ⟨d1,e1,rfl,g1,hds⟩:=hds.consI
   obtain ⟨d2,e2,rfl,g2,hds⟩:=hds.consI
   cases hds.nilI
   cases (show d1 = .str qq.1 by unfold Dat at g1;exact g1)
   cases g2.intI
   have sH:=s2.trans s'
   have:=okq.2.2
   unfold tYes
   refine iteT ⟨_,rfl,pd,_,_,_,rfl,rfl,SqT.of (sH _ _ hpd),rfl,_,rfl,pd,_,_,_,rfl,rfl,SqT.of (sH _ _ hpd),rfl,_,rfl,x_f (by lia),zl3,fun r hr=>?_⟩
   refine ⟨cs++[r],by rw [List.map_append];rfl,s'.trans (z_e hr _),?_⟩
   rw [y_f (show (P.outs.map fun q=>(["out",q.1,nw q.2]:List Str))[i]? = some (["out",qq.1,nw qq.2]:List Str) by rw [List.getElem?_map,hq];rfl)]
   exact x_o ⟨s'.free hr,z_c⟩ (y_l (fun r v y=>⟨y.1,z_e hr _ _ _ y.2⟩) pr2)
  rintro zs J' ⟨cs,rfl,s',pr2⟩ pc hpc
  rw [List.take_of_length_le (by rw [List.length_map];lia)] at pr2
  have lrs:=Paired.length R2.2
  have lr2:=Paired.length pr2
  rw [List.length_map] at lr2
  simp only [List.length_append,List.length_map,List.length_cons,List.length_nil] at lrs
  have t':=z_e hpc (.lst (cs.map V.ref))
  refine ⟨pr,pc,_,_,rfl,rfl,t' _ _ (s' _ _ R2.1),z_c,small (by rw [List.length_map,List.length_map];have:=l0;lia),?_⟩
  have R3:=R2.ext (s'.trans t') (y_l (fun r v y=>⟨y.1,t' _ _ y.2⟩) pr2)
  have s3:=x_y (s2.trans (s'.trans t')) hpr (.lst (rs2.map V.ref++cs.map V.ref))
  generalize hrs3:rs2++cs=rs3 at R3
  generalize upd (upd J' pc (.lst (cs.map V.ref))) pr (.lst (rs2.map V.ref++cs.map V.ref))=J3 at R3 s3 ⊢
  clear t' pr2 s' hpc hrs3 lr2 lrs
  refine ⟨_,rfl,.inl ⟨rfl,_,SqL.of R3.1⟩,_,rfl,pa,_,_,_,rfl,rfl,SqT.of (s3 _ _ hp),rfl,p4,rfl,⟨_,SqT.of (s3 _ _ hp4)⟩,w_e (xs:=us) (fun k zs J'=>∃ cs:List Addr,zs=cs.map V.ref/\Same J3 J'/\Paired (fun r ws=>J3 r=none/\J' r=some (.lst (sV ws))) cs ((P.rows.map PRw.ws).take k)) ⟨[],rfl,Same.refl _,.nil⟩ ?_ ?_ ?_ ?_⟩
  ·rintro i zs J' _ ⟨_,_,s',_⟩
   exact SqT.of (s' _ _ (s3 _ _ hp4))
  ·rintro i zs J' hi ⟨cs,rfl,_,pr2⟩
   have:=Paired.length pr2
   rw [List.length_take] at this
   rw [List.length_map]
   exact y_j (by lia)
  ·rintro i v zs J' hv ⟨cs,rfl,s',pr2⟩
   obtain ⟨d,hd,hdv⟩:=hu.get hv
   rw [List.getElem?_map] at hd
   obtain ⟨rw',hq,rfl⟩:=Option.map_eq_some_iff.mp hd
   have hm:=List.mem_of_getElem? hq
   unfold tYes
   refine iteT ⟨_,rfl,rw',v,rfl,okP.rows rw' hm,hw8 rw' hm,hdv.same (s3.trans s'),fun r J'' hr s'' fr=>?_⟩
   refine ⟨cs++[r],by rw [List.map_append];rfl,s'.trans s'',?_⟩
   rw [y_f (show (P.rows.map PRw.ws)[i]? = some rw'.ws by rw [List.getElem?_map,hq];rfl)]
   exact x_o ⟨s'.free hr,fr⟩ (y_l (fun r v y=>⟨y.1,s'' _ _ y.2⟩) pr2)
  rintro zs J' ⟨cs,rfl,s',pr2⟩ pc hpc
  rw [List.take_of_length_le (by rw [List.length_map];lia)] at pr2
  have lrs:=Paired.length R3.2
  have lr2:=Paired.length pr2
  rw [List.length_map] at lr2
  simp only [List.length_append,List.length_map,List.length_cons,List.length_nil] at lrs
  have t':=z_e hpc (.lst (cs.map V.ref))
  refine ⟨pr,pc,_,_,rfl,rfl,t' _ _ (s' _ _ R3.1),z_c,small (by rw [List.length_map,List.length_map];lia),?_⟩
  have R4:=R3.ext (s'.trans t') (y_l (fun r v y=>⟨y.1,t' _ _ y.2⟩) pr2)
  have s4:=x_y (s3.trans (s'.trans t')) hpr (.lst (rs3.map V.ref++cs.map V.ref))
  generalize hrs4:rs3++cs=rs4 at R4
  generalize upd (upd J' pc (.lst (cs.map V.ref))) pr (.lst (rs3.map V.ref++cs.map V.ref))=J4 at R4 s4 ⊢
  clear t' pr2 s' hpc hrs4 lr2 lrs
  have lrs:=Paired.length R4.2
  simp only [List.length_append,List.length_map,List.length_cons,List.length_nil] at lrs
  refine ⟨_,rfl,.inl ⟨rfl,_,SqL.of R4.1⟩,zl1,fun p5 hp5=>⟨pr,_,_,rfl,rfl,z_e hp5 _ _ _ R4.1,y_j (by rw [List.length_map];lia),?_⟩⟩
  have R5:=R4.push (ws:=["end"]) hp5
  refine ⟨_,rs4++[p5],rfl,x_y (s4.trans (z_e hp5 _)) hpr _,?_⟩
  rw [et]
  have e:plnW (ps.take i)++P.ws=plnW (ps.take i)++([["part",P.name]]:List (List Str))++(P.ins.map fun q=>(["in",q.1,nw q.2]:List Str))++(P.outs.map fun q=>(["out",q.1,nw q.2]:List Str))++P.rows.map PRw.ws++([["end"]]:List (List Str)):=by
   unfold PPt.ws
   simp only [List.append_assoc]
  rw [e]
  exact R5
 rintro σ J ⟨x2,rs,rfl,sJ,R⟩
 rw [<-lx,List.take_length] at R
 exact ⟨_,rfl,pr,rs,_,rfl,R.trw,tok,fun J2 s2=>q J2 (sJ.trans s2)⟩
theorem ok_L_bag(T:Tx w K mg A):FnOk P w K mg base CX0 1 A.a_L_bag A.d_L_bag ["_law_script", "_law_at"] (m_x K):=by
 refine T.F_L_bag.ok sc_L_bag (fun vs H Q E h=>?_) (fun cdv A' outer s H vs Q E hr h=>?_)
 ·obtain ⟨a,ns,i,rfl,hS,h63,hi,q⟩:=h
  rfl
 obtain ⟨a,ns,i,rfl,hS,h63,hi,q⟩:=h
 refine ⟨_,(z_d (z_p (i:=2) sc_L_bag.nd rfl (Or.inl rfl) z_f)
  (z_d (y_d (z_o op_lt (pv 1) (z_i z_w rfl T.len PySem.boot_len (z_a (pv 0) z_b)) (nomark _)) (z_g (z_p (i:=2) sc_L_bag.nd rfl (Or.inl rfl) (z_i call_abs rfl T.abs PyProof.Rows.boot_abs (z_a (z_j z_v (pv 0) (pv 1) (fun _ _=>rfl)) z_b)))) z_q)
  (z_d (z_p (i:=3) sc_L_bag.nd rfl (Or.inl rfl) (z_u y_w (z_u s_l z_f (pv 1)) z_f))
  (z_d (x_j PassesOwn.never rfl (y_x rfl T.range (z_a (z_i (p_r rfl) rfl T.min PyProof.Rows.boot_min (z_a (z_i z_w rfl T.len PySem.boot_len (z_a (pv 0) z_b)) (z_a z_f z_b))) z_b)) (y_g (i:=4) sc_L_bag.nd rfl (Or.inl rfl))
    (z_g (z_p (i:=3) sc_L_bag.nd rfl (Or.inl rfl) (z_u s_k (z_u y_w (z_u y_w (z_u s_l (pv 3) z_f) (z_u s_k (z_j z_v (pv 0) (pv 4) (fun _ _=>rfl)) z_f)) (z_u s_l z_f (pv 4))) z_f))))
  (z_g (z_l (y_u (z_a (z_i (p_q rfl) rfl T.max PyProof.Rows.boot_max (z_a z_f (z_a (z_u r_f (pv 2) (z_u op_pow z_f z_f)) z_b))) (z_a (z_u y_w (pv 3) z_f) z_b))))))))),?_⟩
 have hl:(ns.map V.int).length=ns.length:=List.length_map _
 refine ⟨_,rfl,_,rfl,_,_,rfl,.inl ⟨_,hS,rfl⟩,_,_,rfl,rfl,_,rfl,?_⟩
 refine ite2 (fun c=>?_) (fun c=>?_)
 ·have c':i<(((ns.map V.int).length:Nat):Int):=of_decide_eq_true c
  rw [hl] at c'
  obtain ⟨v,hv⟩:=at_mapI hi c'
  refine ⟨_,rfl,_,rfl,a,_,_,_,rfl,rfl,hS,hv,_,rfl,?_⟩
  refine ⟨_,rfl,_,_,rfl,rfl,.inl ⟨by decide,by decide⟩,_,_,rfl,rfl,?_⟩
  refine ⟨_,rfl,_,_,rfl,.inl ⟨_,hS,rfl⟩,_,_,rfl,_,rfl,?_,?_,x_i (lo:=0) (fun k σ H'=>∃ (m:Int) (x:Option V),σ=[some (.ref a),some (.int i),some (.int (if v<0 then -v else v)),some (.int m),x]/\H'=H) ⟨_,_,rfl,rfl⟩ ?_ ?_⟩
  ·split<;>lia
  ·split<;>lia
  ·rintro k σ H' hk ⟨m,x,rfl,rfl⟩
   have hk':k<ns.length:=by
    rw [hl] at hk
    split at hk<;>lia
   obtain ⟨u,hu⟩:=k_p (ns:=ns) hk'
   refine ⟨_,rfl,_,_,rfl,rfl,.inr ⟨by decide,by decide⟩,_,rfl,_,rfl,a,_,_,_,rfl,rfl,hS,(by rw [Int.zero_add];exact hu),_,_,rfl,rfl,(by show (0:Int)<2147483647;decide),_,_,rfl,rfl,_,rfl,_,_,rfl,rfl,.inl ⟨by decide,by decide⟩,_,_,rfl,rfl,_,_,rfl,rfl,(by show (0:Int)<2147483629;decide),?_⟩
   exact ⟨_,_,rfl,rfl⟩
  ·rintro σ H' ⟨m,x,rfl,rfl⟩
   refine ⟨_,rfl,_,_,rfl,rfl,⟨by decide,by decide,by decide⟩,_,_,rfl,rfl,_,_,rfl,_,rfl,_,_,rfl,rfl,zl2,fun l hl'=>?_⟩
   exact q l _ _ hl' (by split<;>lia)
 ·refine ⟨_,rfl,_,_,rfl,rfl,.inl ⟨by decide,by decide⟩,_,_,rfl,rfl,?_⟩
  refine ⟨_,rfl,_,_,rfl,.inl ⟨_,hS,rfl⟩,_,_,rfl,_,rfl,?_,?_,x_i (lo:=0) (fun k σ H'=>∃ (m:Int) (x:Option V),σ=[some (.ref a),some (.int i),some (.int 0),some (.int m),x]/\H'=H) ⟨_,_,rfl,rfl⟩ ?_ ?_⟩
  ·split<;>lia
  ·split<;>lia
  ·rintro k σ H' hk ⟨m,x,rfl,rfl⟩
   have hk':k<ns.length:=by
    rw [hl] at hk
    split at hk<;>lia
   obtain ⟨u,hu⟩:=k_p (ns:=ns) hk'
   refine ⟨_,rfl,_,_,rfl,rfl,.inr ⟨by decide,by decide⟩,_,rfl,_,rfl,a,_,_,_,rfl,rfl,hS,(by rw [Int.zero_add];exact hu),_,_,rfl,rfl,(by show (0:Int)<2147483647;decide),_,_,rfl,rfl,_,rfl,_,_,rfl,rfl,.inl ⟨by decide,by decide⟩,_,_,rfl,rfl,_,_,rfl,rfl,(by show (0:Int)<2147483629;decide),?_⟩
   exact ⟨_,_,rfl,rfl⟩
  ·rintro σ H' ⟨m,x,rfl,rfl⟩
   refine ⟨_,rfl,_,_,rfl,rfl,⟨by decide,by decide,by decide⟩,_,_,rfl,rfl,_,_,rfl,_,rfl,_,_,rfl,rfl,zl2,fun l hl'=>?_⟩
   exact q l _ _ hl' (by split<;>lia)
theorem j_z(T:Tx w K mg A):FnOk P w K mg base CX0 1 A.a_L_take A.d_L_take ["_law_bag_here", "_law_many"] v_h:=by
 refine T.F_L_take.ok sc_L_take (fun vs H Q E h=>?_) (fun cdv A' outer s H vs Q E hr h=>?_)
 ·obtain ⟨l,many,rfl,⟨b0,b1,hl,hb0⟩,h0,hbig,q⟩:=h
  rfl
 obtain ⟨l,many,rfl,⟨b0,b1,hl,hb0⟩,h0,hbig,q⟩:=h
 refine ⟨_,(z_d (y_d (z_o o_f (z_j z_v (pv 0) z_f (fun _ _=>rfl)) z_f (nomark _)) (z_d (z_p (i:=2) sc_L_take.nd rfl (Or.inl rfl) (z_u s_k (z_j z_v (pv 0) z_f (fun _ _=>rfl)) (pv 1)))
  (z_d (ps_asg (z_u m_m (z_j z_v (pv 0) z_f (fun _ _=>rfl)) (pv 1)) (pg_sub (pv 0) z_f m_v))
  (z_g (z_l (pv 2))))) z_q)
  (z_d (ps_asg (z_u s_k (z_u y_w (z_u s_l (z_j z_v (pv 0) z_f (fun _ _=>rfl)) z_f) z_f) z_f) (pg_sub (pv 0) z_f m_v))
  (z_g (z_l (z_u s_k (z_u s_k (z_u s_l (z_u m_m (z_j z_v (pv 0) z_f (fun _ _=>rfl)) z_f) z_f) z_f) (pv 1)))))),?_⟩
 refine ⟨_,rfl,l,_,0,_,rfl,rfl,SqL.of hl,rfl,_,_,rfl,rfl,_,rfl,?_⟩
 refine ite2 (fun c=>?_) (fun c=>?_)
 ·have c':0<b0:=of_decide_eq_true c
  refine ⟨_,rfl,l,_,0,_,rfl,rfl,SqL.of hl,rfl,_,rfl,_,_,rfl,rfl,h0,?_⟩
  refine ⟨_,rfl,l,_,0,_,rfl,rfl,SqL.of hl,rfl,_,rfl,_,_,rfl,rfl,⟨h0,hbig⟩,_,rfl,l,_,0,0,rfl,rfl,hl,rfl,?_⟩
  refine ⟨_,rfl,?_⟩
  exact q _ _ (Int.emod_nonneg _ (by lia)) (Int.emod_lt_of_pos _ h0) (Bg.put _ _ (Int.ediv_nonneg hb0 (by lia)))
 ·refine ⟨_,rfl,l,_,1,_,rfl,rfl,SqL.of hl,rfl,_,_,rfl,rfl,.inr ⟨by decide,by decide⟩,_,_,rfl,rfl,_,_,rfl,rfl,(by show (0:Int)<2147483647;decide),_,rfl,l,_,1,1,rfl,rfl,hl,rfl,?_⟩
  refine ⟨_,rfl,l,_,1,_,rfl,rfl,SqL.of z_c,rfl,_,_,rfl,rfl,⟨by decide,by decide⟩,_,_,rfl,rfl,.inr ⟨by decide,by decide⟩,_,_,rfl,rfl,(by show (0:Int)<2147483629;decide),_,rfl,_,_,rfl,rfl,h0,?_⟩
  exact q _ _ (Int.emod_nonneg _ (by lia)) (Int.emod_lt_of_pos _ h0) (Bg.put _ _ hb0)
theorem j_v(T:Tx w K mg A)(G_L_take:FnOk P w K mg base CX0 1 A.a_L_take A.d_L_take ["_law_bag_here", "_law_many"] v_h):FnOk P w K mg base CX0 2 A.a_L_name A.d_L_name ["_law_bag_here"] u_w:=by
 refine T.F_L_name.ok sc_L_name (fun vs H Q E h=>?_) (fun cdv A' outer s H vs Q E hr h=>?_)
 ·obtain ⟨l,rfl,hb,q⟩:=h
  rfl
 obtain ⟨l,rfl,hb,q⟩:=h
 conv in (v_l _)=>whnf
 simp only [o_x,o_y]
 refine ⟨_,(z_d (z_p (i:=1) sc_L_name.nd rfl (Or.inl rfl) z_k)
  (z_d (x_j PassesOwn.never rfl (y_x rfl T.range (z_a (z_u y_w z_f (z_h G_L_take (hr.mono (by first | decide | lia)) rfl T.M_L_take T.F_L_take.kp T.B_L_take .nil pass0 (z_a (pv 0) (z_a z_f z_b)))) z_b)) (y_g (i:=2) sc_L_name.nd rfl (Or.inl rfl))
    (z_g (z_p (i:=1) sc_L_name.nd rfl (Or.inl rfl) (z_u y_i (pv 1) (z_j ix_str z_k (z_h G_L_take (hr.mono (by first | decide | lia)) rfl T.M_L_take T.F_L_take.kp T.B_L_take .nil pass0 (z_a (pv 0) (z_a z_f z_b))) (fun _ _=>rfl))))))
  (z_d (y_d (z_o v_t (pv 1) (q_x rfl) (by unfold bigL;rfl)) (z_g (z_l z_k)) z_q)
  (z_d (y_d (z_o v_t (pv 1) (y_u (t_o rfl)) rfl) (z_g (z_l z_k)) z_q)
  (z_g (z_l (pv 1))))))),?_⟩
 refine ⟨_,rfl,l,8,rfl,hb,by decide,by decide,fun d H1 d0 d1 hb1=>?_⟩
 refine ⟨_,_,rfl,rfl,_,rfl,by lia,by lia,x_i (lo:=0) (fun i σ H'=>∃ (z:Str) (x:Option V),σ=[some (.ref l),some (.str z),x]/\z.length=i/\z.cps.toList.all letterB=true/\Bg l H H') ⟨_,none,rfl,rfl,rfl,hb1⟩ ?_ ?_⟩
 ·rintro i σ H2 hi ⟨z,x,rfl,hz,hza,hb2⟩
  refine ⟨_,rfl,_,rfl,l,26,rfl,hb2.2,by decide,by decide,fun e H3 e0 e1 hb3=>?_⟩
  obtain ⟨c,hc,hc2⟩:=at_any (xs:=("abcdefghijklmnopqrstuvwxyz" : Str).cps.toList) e0 (show e<26 from e1)
  refine ⟨_,_,c,rfl,rfl,(by decide),hc,_,_,rfl,rfl,small (by show z.length+1<=100000;lia),?_⟩
  refine ⟨z++⟨#[c]⟩,_,rfl,?_,?_,hb2.trans hb3⟩
  ·rw [Str.length_append,hz]
   rfl
  ·have hcl:=l_p c (List.mem_of_getElem? hc2)
   show (z.cps ++ #[c]).toList.all letterB=true
   rw [Array.toList_append,List.all_append,hza]
   simp [hcl]
 ·rintro σ H2 ⟨z,x,rfl,hz,hza,hb2⟩
  have hz8:z.length<=8:=by lia
  have hz1:1<=z.length:=by lia
  refine ⟨_,rfl,(by show 13<=sizeLine;decide),fun p hp=>?_⟩
  have hb3:=fun o=>hb2.trans (Bg.new hb2.2 hp o)
  refine ⟨p,_,rfl,.inl (SqL.of z_c),rfl,(by decide),_,rfl,?_⟩
  refine ite2 (fun c=>?_) (fun c=>?_)
  ·exact q "a" _ (by decide) (hb3 _)
  ·have c13:z∉w13:=fun h=>c ((m_f z w13).trans (decide_eq_true h))
   refine ⟨_,rfl,zl3,fun p2 hp2=>?_⟩
   have hb4:∀ o,(upd H2 p o) p2=none->∀ o2,Bg l H (upd (upd H2 p o) p2 o2):=fun o h o2=>(hb3 o).trans (Bg.new (hb3 o).2 h o2)
   refine ⟨p2,_,rfl,.inl (SqL.of z_c),rfl,(by decide),_,rfl,?_⟩
   refine ite2 (fun c=>?_) (fun c=>?_)
   ·exact q "b" _ (by decide) (hb4 _ hp2 _)
   ·have c3:z∉w3:=fun h=>c ((m_f z w3).trans (decide_eq_true h))
    have hw:z∉words:=by
     rw [words_eq,List.mem_append]
     exact fun h=>h.elim c13 c3
    have hn:nameD (.str z)=true:=by
     simp only [nameD,decide_eq_true hz1,decide_eq_true hz8,hza,decide_eq_false hw]
     rfl
    exact ⟨_,rfl,q z _ hn (hb4 _ hp2 _)⟩
theorem l_x(T:Tx w K mg A)(G_L_take:FnOk P w K mg base CX0 1 A.a_L_take A.d_L_take ["_law_bag_here", "_law_many"] v_h):FnOk P w K mg base CX0 2 A.a_L_rooms A.d_L_rooms ["_law_bag_here", "_law_room", "_law_many"] s_h:=by
 refine T.F_L_rooms.ok sc_L_rooms (fun vs H Q E h=>?_) (fun cdv A' outer s H vs Q E hr h=>?_)
 ·obtain ⟨l,room,many,rfl,hb,hm0,hm3,hmr,hroom,q⟩:=h
  rfl
 obtain ⟨l,room,many,rfl,hb,hm0,hm3,hmr,hroom,q⟩:=h
 refine ⟨_,(z_d (z_p (i:=3) sc_L_rooms.nd rfl (Or.inl rfl) (z_u r_f (pv 1) (pv 2)))
  (z_d (z_p (i:=4) sc_L_rooms.nd rfl (Or.inl rfl) (y_u z_b))
  (z_d (x_j PassesOwn.never rfl (y_x rfl T.range (z_a (pv 2) z_b)) (y_g (i:=5) sc_L_rooms.nd rfl (Or.inl rfl))
    (z_d (z_p (i:=6) sc_L_rooms.nd rfl (Or.inl rfl) (pv 3))
  (z_d (y_d (z_o op_lt (z_u y_w (pv 5) z_f) (pv 2) (nomark _)) (z_g (z_p (i:=6) sc_L_rooms.nd rfl (Or.inl rfl) (z_h G_L_take (hr.mono (by first | decide | lia)) rfl T.M_L_take T.F_L_take.kp T.B_L_take .nil pass0 (z_a (pv 0) (z_a (z_u y_w (pv 3) z_f) z_b))))) z_q)
  (z_d (y_z (w_t PySem.F.plainAttrs_list PySem.F.slot_list_append PySem.F.type_list_append x_e (pv 4) (z_a (z_u y_w z_f (pv 6)) z_b)))
  (z_g (z_p (i:=3) sc_L_rooms.nd rfl (Or.inl rfl) (z_u r_f (pv 3) (pv 6))))))))
  (z_g (z_l (pv 4)))))),?_⟩
 refine ⟨_,rfl,_,rfl,_,_,rfl,rfl,?_⟩
 refine ⟨zl0,fun p hp=>?_⟩
 have hpl:p≠l:=hb.ne hp
 refine ⟨_,rfl,_,rfl,by lia,by lia,x_i (lo:=0) (fun i σ H'=>∃ (left:Int) (rs:List Int) (x y:Option V),σ=[some (.ref l),some (.int room),some (.int many),some (.int left),some (.ref p),x,y]/\0<=left/\left<=1000/\rs.length=i/\(∀ r∈rs,1<=r/\r<=1001)/\rs.sum+left=room-many+(i:Int)/\Bg l H H'/\H' p=some (.lst (rs.map V.int))) ⟨_,[],none,none,rfl,by lia,by lia,rfl,(fun _ h=>nomatch h),by simp,Bg.new hb hp _,z_c⟩ ?_ ?_⟩
 ·rintro i σ H1 hi ⟨left,rs,x,y,rfl,l0,l1,hrs,hrb,hsum,hb1,hp1⟩
  have fin:∀ (more:Int) (H2:Hp),0<=more->more<=left->Bg l H1 H2->∃ (left':Int) (rs':List Int) (x y:Option V),[some (V.ref l),some (.int room),some (.int many),some (.int (left-more)),some (.ref p),some (.int (0+(i:Int))),some (.int more)]=[some (.ref l),some (.int room),some (.int many),some (.int left'),some (.ref p),x,y]/\0<=left'/\left'<=1000/\rs'.length=i+1/\(∀ r∈rs',1<=r/\r<=1001)/\rs'.sum+left'=room-many+((i+1:Nat):Int)/\Bg l H (upd H2 p (.lst (rs.map V.int++[.int (1+more)])))/\(upd H2 p (.lst (rs.map V.int++[.int (1+more)]))) p=some (.lst (rs'.map V.int)):=fun more H2 m0 m1 hb2=>by
   refine ⟨_,rs++[1+more],_,_,rfl,by lia,by lia,by rw [List.length_append,hrs];rfl,fun r hr=>?_,?_,(hb1.trans hb2).set hp hpl _,by rw [z_c,List.map_append];rfl⟩
   ·rcases List.mem_append.mp hr with h | h
    ·exact hrb r h
    ·rw [List.mem_singleton.mp h];lia
   ·rw [List.sum_append,List.sum_singleton]
    lia
  have hlen:∀ H2,Bg l H1 H2->H2 p=some (.lst (rs.map V.int))/\(rs.map V.int).length<sizeLine:=fun H2 hb2=>⟨hb2.1 p _ hpl hp1,by rw [List.length_map];exact y_j (by lia)⟩
  refine ⟨_,rfl,?_⟩
  refine ⟨_,rfl,_,_,rfl,rfl,_,rfl,_,_,rfl,rfl,_,rfl,?_⟩
  refine ite2 (fun c=>?_) (fun c=>?_)
  ·refine ⟨_,rfl,_,rfl,_,_,rfl,rfl,l,_,rfl,hb1.2,by lia,(by show left+1<bigB;exact Int.lt_trans (show left+1<2000 by lia) (by decide)),fun more H2 m0 m1 hb2=>?_⟩
   obtain ⟨hp2,hl2⟩:=hlen H2 hb2
   refine ⟨_,rfl,.inl ⟨rfl,_,SqL.of hp2⟩,_,rfl,_,_,rfl,rfl,p,_,_,rfl,rfl,hp2,hl2,?_⟩
   refine ⟨_,rfl,_,rfl,_,_,rfl,rfl,?_⟩
   exact fin more H2 m0 (by lia) hb2
  ·obtain ⟨hp2,hl2⟩:=hlen H1 (Bg.refl hb1.2)
   refine ⟨_,rfl,.inl ⟨rfl,_,SqL.of hp2⟩,_,rfl,_,_,rfl,rfl,p,_,_,rfl,rfl,hp2,hl2,?_⟩
   refine ⟨_,rfl,_,rfl,_,_,rfl,rfl,?_⟩
   exact fin left H1 l0 (Int.le_refl _) (Bg.refl hb1.2)
 ·rintro σ H1 ⟨left,rs,x,y,rfl,l0,l1,hrs,hrb,hsum,hb1,hp1⟩
  exact ⟨_,rfl,q p rs H1 hp hpl hb1 hp1 (by rw [hrs];lia) hrb (by lia)⟩
theorem ok_L_any(T:Tx w K mg A)(G_L_take:FnOk P w K mg base CX0 1 A.a_L_take A.d_L_take ["_law_bag_here", "_law_many"] v_h)(G_L_name:FnOk P w K mg base CX0 2 A.a_L_name A.d_L_name ["_law_bag_here"] u_w)(G_L_rooms:FnOk P w K mg base CX0 2 A.a_L_rooms A.d_L_rooms ["_law_bag_here", "_law_room", "_law_many"] s_h)(n:Nat)(G_L_any:FnOk P w K mg base CX0 (n+2) A.a_L_any A.d_L_any ["_law_bag_here", "_law_names", "_law_deep", "_law_room"] (r_r n)):FnOk P w K mg base CX0 (n+3) A.a_L_any A.d_L_any ["_law_bag_here", "_law_names", "_law_deep", "_law_room"] (r_r (n+1)):=by
 refine T.F_L_any.ok sc_L_any (fun vs H Q E h=>?_) (fun cdv A' outer s H vs Q E hr h=>?_)
 ·obtain ⟨l,nm,names,room,rfl,h1,hb,hnm,nml,nl1,nl100,hnames,hroom1,hrm,q⟩:=h
  rfl
 obtain ⟨l,nm,names,room,rfl,h1,hb,hnm,nml,nl1,nl100,hnames,hroom1,hrm,q⟩:=h
 conv in (v_l _)=>whnf
 simp only [o_x,o_y]
 refine ⟨_,(z_d (z_p (i:=4) sc_L_any.nd rfl (Or.inl rfl) (q_x rfl) (by unfold bigL;rfl))
  (z_d (z_p (i:=5) sc_L_any.nd rfl (Or.inl rfl) (z_h G_L_take (hr.mono (by first | decide | lia)) rfl T.M_L_take T.F_L_take.kp T.B_L_take .nil pass0 (z_a (pv 0) (z_a z_f z_b))))
  (z_d (z_p (i:=6) sc_L_any.nd rfl (Or.inl rfl) (z_j z_v (q_x rfl) (pv 5) (fun _ _=>rfl)))
  (z_d (z_p (i:=7) sc_L_any.nd rfl (Or.inr rfl) (z_u y_w z_f (z_h G_L_take (hr.mono (by first | decide | lia)) rfl T.M_L_take T.F_L_take.kp T.B_L_take .nil pass0 (z_a (pv 0) (z_a z_f z_b)))))
  (z_d (y_d (PW.pt (v_i (z_o y_q (pv 2) z_f (nomark _)) (v_i (z_o o_f (pv 5) z_f (nomark _)) (w_j (z_o q_a (pv 3) (pv 6) (nomark _)))))) (z_d (y_d (z_o y_q (z_u s_k (pv 5) z_f) z_f (nomark _)) (z_g (z_l (y_k (z_a z_k (z_a (z_h G_L_take (hr.mono (by first | decide | lia)) rfl T.M_L_take T.F_L_take.kp T.B_L_take .nil pass0 (z_a (pv 0) (z_a (z_u m_n z_f (pv 7)) z_b))) (z_a (pv 7) z_b)))))) z_q)
  (z_d (y_d (z_o y_q (z_u s_k (pv 5) z_f) z_f (nomark _)) (z_g (z_l (y_k (z_a z_k (z_a (z_j z_v (pv 1) (z_h G_L_take (hr.mono (by first | decide | lia)) rfl T.M_L_take T.F_L_take.kp T.B_L_take .nil pass0 (z_a (pv 0) (z_a (z_i z_w rfl T.len PySem.boot_len (z_a (pv 1) z_b)) z_b))) (fun _ _=>rfl)) z_b))))) z_q)
  (z_g (z_l (y_k (z_a z_k (z_a (z_h G_L_name (hr.mono (by first | decide | lia)) rfl T.M_L_name T.F_L_name.kp T.B_L_name .nil pass0 (z_a (pv 0) z_b)) z_b))))))) z_q)
  (z_d (z_p (i:=8) sc_L_any.nd rfl (Or.inl rfl) (z_y y_h rfl T.tuple PyProof.Rows.boot_tuple (z_a (y_o [0,1,2] (fun _ _ h=>h) rfl (x_s (z_h G_L_rooms (hr.mono (by first | decide | lia)) rfl T.M_L_rooms T.F_L_rooms.kp T.B_L_rooms .nil pass0 (z_a (pv 0) (z_a (z_u r_f (pv 3) z_f) (z_a (pv 6) z_b))))) (fun _ _ _ _=>y_m) (fun _ _ _ _=>(z_h G_L_any (hr.mono (by first | decide | lia)) rfl T.M_L_any T.F_L_any.kp T.B_L_any .nil pass0 (z_a (pv 1) (z_a (pv 2) (z_a (z_u r_f (pv 3) z_f) (z_a (pv 0) z_b)))))) rfl (show ∀ j∈([0,1,2]:List Nat),j<10 by decide) (show (["_law_more", "_law_bag_here", "_law_names", "_law_deep"]:List Str).Nodup by decide +kernel)) z_b)))
  (z_d (y_d (z_o y_q (z_j z_v (pv 4) (pv 5) (fun _ _=>rfl)) z_k (nomark _)) (z_g (z_l (z_u v_o (y_k (z_a z_k (z_a (z_h G_L_take (hr.mono (by first | decide | lia)) rfl T.M_L_take T.F_L_take.kp T.B_L_take .nil pass0 (z_a (pv 0) (z_a z_f z_b))) (z_a (pv 7) z_b)))) (pv 8)))) z_q)
  (z_d (y_d (z_o y_q (z_j z_v (pv 4) (pv 5) (fun _ _=>rfl)) z_k (nomark _)) (z_d (z_p (i:=9) sc_L_any.nd rfl (Or.inl rfl) (z_y y_h rfl T.tuple PyProof.Rows.boot_tuple (z_a (y_o [0,7] (fun _ _ h=>h) rfl (y_x rfl T.range (z_a (z_u m_n z_f (z_h G_L_take (hr.mono (by first | decide | lia)) rfl T.M_L_take T.F_L_take.kp T.B_L_take .nil pass0 (z_a (pv 0) (z_a z_f z_b)))) z_b)) (fun _ _ _ _=>y_m) (fun _ _ _ _=>(z_h G_L_take (hr.mono (by first | decide | lia)) rfl T.M_L_take T.F_L_take.kp T.B_L_take .nil pass0 (z_a (pv 1) (z_a (z_u m_n z_f (pv 2)) z_b)))) rfl (show ∀ j∈([0,7]:List Nat),j<10 by decide) (show (["_law_k", "_law_bag_here", "_law_width"]:List Str).Nodup by decide +kernel)) z_b)))
  (z_g (z_l (z_u v_o (y_k (z_a z_k (z_a (pv 7) (z_a (pv 9) z_b)))) (pv 8))))) z_q)
  (z_d (y_d (PW.pt (v_i (z_o y_q (pv 5) z_f (nomark _)) (w_j (z_o y_q (pv 5) z_f (nomark _))))) (z_g (z_l (z_u v_o (y_k (z_a (z_j z_v (pv 4) (pv 5) (fun _ _=>rfl)) (z_a (z_h G_L_take (hr.mono (by first | decide | lia)) rfl T.M_L_take T.F_L_take.kp T.B_L_take .nil pass0 (z_a (pv 0) (z_a z_f z_b))) z_b))) (pv 8)))) z_q)
  (z_g (z_l (z_u v_o (y_k (z_a (z_j z_v (pv 4) (pv 5) (fun _ _=>rfl)) z_b)) (pv 8))))))))))))),?_⟩
 refine ⟨(by show 14<=sizeLine;decide),fun pw hpw=>?_⟩
 have nw:pw≠l:=hb.ne hpw
 show tSeq _ _ _ _ (upd H pw (.lst (wordL.map V.str)))
 have b1:=Bg.new hb hpw (.lst (wordL.map V.str))
 have hw1:(upd H pw (.lst (wordL.map V.str))) pw=some (.lst (wordL.map V.str)):=z_c
 generalize upd H pw (.lst (wordL.map V.str))=H1 at b1 hw1 ⊢
 refine ⟨_,rfl,l,18,rfl,b1.2,by decide,by decide,fun d H2 d0 d1 hb2=>?_⟩
 have b2:=b1.trans hb2
 have hw2:=hb2.1 pw _ nw hw1
 obtain ⟨k,rfl⟩:=Int.eq_ofNat_of_zero_le d0
 have hk:k<18:=by lia
 refine ⟨(by show 18<=sizeLine;decide),fun p hp=>?_⟩
 refine ⟨_,rfl,p,manyL.map V.int,_,_,rfl,rfl,SqL.of z_c,(show atI _ ((k:Nat):Int)=_ from z_t (many_at hk)),?_⟩
 show tSeq _ _ _ _ (upd H2 p (.lst (manyL.map V.int)))
 have b3:=b2.trans (Bg.new b2.2 hp (.lst (manyL.map V.int)))
 have hw3:(upd H2 p (.lst (manyL.map V.int))) pw=some (.lst (wordL.map V.str)):=by rw [y_a (z_r hw2 hp)];exact hw2
 generalize upd H2 p (.lst (manyL.map V.int))=H3 at b3 hw3 ⊢
 refine ⟨_,rfl,l,8,rfl,b3.2,by decide,by decide,fun e H4 e0 e1 hb4=>?_⟩
 have b4:=b3.trans hb4
 have hw4:=hb4.1 pw _ nw hw3
 refine ⟨_,_,rfl,rfl,?_⟩
 obtain ⟨m0,m3⟩:=many_in k hk
 by_cases hA:n=0
 ·refine ⟨_,rfl,rfl,_,rfl,y_b (decide_eq_true (by rw [hA];rfl)) ?_⟩
  refine iteT ?_
  refine ⟨_,rfl,_,_,rfl,rfl,(by show (0:Int)<3;decide),rfl,_,rfl,?_⟩
  refine ite2 (fun c=>?_) (fun c=>?_)
  ·refine ⟨_,rfl,_,rfl,_,_,rfl,rfl,⟨by lia,by lia,by decide⟩,l,_,rfl,b4.2,(r_q (c:=1) (by decide) (by decide) (by lia)).1,Int.lt_of_le_of_lt (r_q (c:=1) (by decide) (by decide) (by lia)).2 (by decide),fun d5 H5 d50 d51 hb5=>?_⟩
   refine ⟨_,rfl,zl3,fun p5 hp5=>?_⟩
   exact q _ _ _ (q_m (i:=d5) (w:=1+e) (by lia) (by lia) d50 (by rw [Int.one_mul] at d51;exact d51) hroom1) (Dat.tup z_c (.cons (Dat.str _) (.cons (Dat.int _) (.cons (Dat.int _) .nil)))) ((b4.trans hb5).trans (Bg.new hb5.2 hp5 _))
  refine ⟨_,rfl,_,_,rfl,rfl,(by show (0:Int)<3;decide),rfl,_,rfl,?_⟩
  refine ite2 (fun c=>?_) (fun c=>?_)
  ·have hn4:=b4.1 nm _ nml hnm
   have ln:(names.map V.str).length=names.length:=List.length_map _
   refine ⟨_,rfl,_,rfl,_,rfl,_,_,rfl,.inl ⟨_,SqL.of hn4,rfl⟩,l,_,rfl,b4.2,(by rw [ln];lia),Int.lt_of_le_of_lt (show _<=(100:Int) by rw [ln];lia) (by decide),fun d5 H5 d50 d51 hb5=>?_⟩
   rw [ln] at d51
   obtain ⟨k5,rfl⟩:=Int.eq_ofNat_of_zero_le d50
   have hk5:k5<names.length:=by lia
   refine ⟨nm,_,_,_,rfl,rfl,SqL.of (hb5.1 nm _ nml hn4),(show atI _ ((k5:Nat):Int)=some (.str names[k5]) from z_t (by rw [List.getElem?_map,List.getElem?_eq_getElem hk5];rfl)),zl2,fun p5 hp5=>?_⟩
   exact q _ _ _ (v_r (hnames _ (List.getElem_mem hk5)) hroom1) (Dat.tup z_c (.cons (Dat.str _) (.cons (Dat.str _) .nil))) ((b4.trans hb5).trans (Bg.new hb5.2 hp5 _))
  ·refine ⟨_,rfl,l,rfl,b4.2,fun z H5 hz hb5=>?_⟩
   refine ⟨zl2,fun p5 hp5=>?_⟩
   exact q _ _ _ (v_r hz hroom1) (Dat.tup z_c (.cons (Dat.str _) (.cons (Dat.str _) .nil))) ((b4.trans hb5).trans (Bg.new hb5.2 hp5 _))
 refine ⟨_,rfl,rfl,_,rfl,z_s (decide_eq_false fun h=>by injection h with h;lia) ?_⟩
 by_cases hB:13<k
 ·refine ⟨_,rfl,_,_,rfl,rfl,_,rfl,y_b (decide_eq_true (by lia)) ?_⟩
  refine iteT ?_
  refine ⟨_,rfl,_,_,rfl,rfl,(by show (0:Int)<3;decide),rfl,_,rfl,?_⟩
  refine ite2 (fun c=>?_) (fun c=>?_)
  ·refine ⟨_,rfl,_,rfl,_,_,rfl,rfl,⟨by lia,by lia,by decide⟩,l,_,rfl,b4.2,(r_q (c:=1) (by decide) (by decide) (by lia)).1,Int.lt_of_le_of_lt (r_q (c:=1) (by decide) (by decide) (by lia)).2 (by decide),fun d5 H5 d50 d51 hb5=>?_⟩
   refine ⟨_,rfl,zl3,fun p5 hp5=>?_⟩
   exact q _ _ _ (q_m (i:=d5) (w:=1+e) (by lia) (by lia) d50 (by rw [Int.one_mul] at d51;exact d51) hroom1) (Dat.tup z_c (.cons (Dat.str _) (.cons (Dat.int _) (.cons (Dat.int _) .nil)))) ((b4.trans hb5).trans (Bg.new hb5.2 hp5 _))
  refine ⟨_,rfl,_,_,rfl,rfl,(by show (0:Int)<3;decide),rfl,_,rfl,?_⟩
  refine ite2 (fun c=>?_) (fun c=>?_)
  ·have hn4:=b4.1 nm _ nml hnm
   have ln:(names.map V.str).length=names.length:=List.length_map _
   refine ⟨_,rfl,_,rfl,_,rfl,_,_,rfl,.inl ⟨_,SqL.of hn4,rfl⟩,l,_,rfl,b4.2,(by rw [ln];lia),Int.lt_of_le_of_lt (show _<=(100:Int) by rw [ln];lia) (by decide),fun d5 H5 d50 d51 hb5=>?_⟩
   rw [ln] at d51
   obtain ⟨k5,rfl⟩:=Int.eq_ofNat_of_zero_le d50
   have hk5:k5<names.length:=by lia
   refine ⟨nm,_,_,_,rfl,rfl,SqL.of (hb5.1 nm _ nml hn4),(show atI _ ((k5:Nat):Int)=some (.str names[k5]) from z_t (by rw [List.getElem?_map,List.getElem?_eq_getElem hk5];rfl)),zl2,fun p5 hp5=>?_⟩
   exact q _ _ _ (v_r (hnames _ (List.getElem_mem hk5)) hroom1) (Dat.tup z_c (.cons (Dat.str _) (.cons (Dat.str _) .nil))) ((b4.trans hb5).trans (Bg.new hb5.2 hp5 _))
  ·refine ⟨_,rfl,l,rfl,b4.2,fun z H5 hz hb5=>?_⟩
   refine ⟨zl2,fun p5 hp5=>?_⟩
   exact q _ _ _ (v_r hz hroom1) (Dat.tup z_c (.cons (Dat.str _) (.cons (Dat.str _) .nil))) ((b4.trans hb5).trans (Bg.new hb5.2 hp5 _))
 refine ⟨_,rfl,_,_,rfl,rfl,_,rfl,z_s (decide_eq_false (by lia)) ?_⟩
 by_cases hC:room<=manyL.getD k 0
 ·refine ⟨_,rfl,_,rfl,_,_,rfl,rfl,_,rfl,y_b (decide_eq_true hC) ?_⟩
  refine ⟨_,rfl,_,_,rfl,rfl,(by show (0:Int)<3;decide),rfl,_,rfl,?_⟩
  refine ite2 (fun c=>?_) (fun c=>?_)
  ·refine ⟨_,rfl,_,rfl,_,_,rfl,rfl,⟨by lia,by lia,by decide⟩,l,_,rfl,b4.2,(r_q (c:=1) (by decide) (by decide) (by lia)).1,Int.lt_of_le_of_lt (r_q (c:=1) (by decide) (by decide) (by lia)).2 (by decide),fun d5 H5 d50 d51 hb5=>?_⟩
   refine ⟨_,rfl,zl3,fun p5 hp5=>?_⟩
   exact q _ _ _ (q_m (i:=d5) (w:=1+e) (by lia) (by lia) d50 (by rw [Int.one_mul] at d51;exact d51) hroom1) (Dat.tup z_c (.cons (Dat.str _) (.cons (Dat.int _) (.cons (Dat.int _) .nil)))) ((b4.trans hb5).trans (Bg.new hb5.2 hp5 _))
  refine ⟨_,rfl,_,_,rfl,rfl,(by show (0:Int)<3;decide),rfl,_,rfl,?_⟩
  refine ite2 (fun c=>?_) (fun c=>?_)
  ·have hn4:=b4.1 nm _ nml hnm
   have ln:(names.map V.str).length=names.length:=List.length_map _
   refine ⟨_,rfl,_,rfl,_,rfl,_,_,rfl,.inl ⟨_,SqL.of hn4,rfl⟩,l,_,rfl,b4.2,(by rw [ln];lia),Int.lt_of_le_of_lt (show _<=(100:Int) by rw [ln];lia) (by decide),fun d5 H5 d50 d51 hb5=>?_⟩
   rw [ln] at d51
   obtain ⟨k5,rfl⟩:=Int.eq_ofNat_of_zero_le d50
   have hk5:k5<names.length:=by lia
   refine ⟨nm,_,_,_,rfl,rfl,SqL.of (hb5.1 nm _ nml hn4),(show atI _ ((k5:Nat):Int)=some (.str names[k5]) from z_t (by rw [List.getElem?_map,List.getElem?_eq_getElem hk5];rfl)),zl2,fun p5 hp5=>?_⟩
   exact q _ _ _ (v_r (hnames _ (List.getElem_mem hk5)) hroom1) (Dat.tup z_c (.cons (Dat.str _) (.cons (Dat.str _) .nil))) ((b4.trans hb5).trans (Bg.new hb5.2 hp5 _))
  ·refine ⟨_,rfl,l,rfl,b4.2,fun z H5 hz hb5=>?_⟩
   refine ⟨zl2,fun p5 hp5=>?_⟩
   exact q _ _ _ (v_r hz hroom1) (Dat.tup z_c (.cons (Dat.str _) (.cons (Dat.str _) .nil))) ((b4.trans hb5).trans (Bg.new hb5.2 hp5 _))
 refine ⟨_,rfl,_,rfl,_,_,rfl,rfl,_,rfl,z_s (decide_eq_false hC) ?_⟩
 have hk14:k<14:=by lia
 obtain ⟨wi1,wi2,wi3,wi5,wi6,wi7,wi8⟩:=word_in k hk14
 refine ⟨_,rfl,_,rfl,_,_,rfl,rfl,_,rfl,l,room-1,manyL.getD k 0,rfl,b4.2,m0,m3,by lia,by lia,fun pr rs H5 hpr hprl hb5 hpr5 hrl hrb hrsum=>?_⟩
 refine ⟨pr,rfl,⟨_,SqL.of hpr5⟩,w_h (xs:=rs.map V.int) (fun i ys H'=>Bg l H5 H'/\∃ ds:List PyData,ds.length=i/\(∀ d∈ds,noL d=true/\szD d=true/\dpt n d=true/\0<pcs n d)/\(((ds.map (pcs n)).sum:Nat):Int)<=(rs.take i).sum/\Dats H' ds ys) ⟨Bg.refl hb5.2,[],rfl,(fun _ h=>nomatch h),by simp,Dats.nil⟩ ?_ ?_ ?_ ?_⟩
 ·rintro i ys H' _ ⟨g,_⟩
  exact SqL.of (g.1 pr _ hprl hpr5)
 ·rintro i ys H' hi ⟨g,ds,hs1,hs2,hsm,hs3⟩
  have hl:=hs3.length
  rw [List.length_map] at hi
  exact y_j (by lia)
 ·rintro i x ys H' hx ⟨g,ds,hs1,hs2,hsm,hs3⟩
  rw [List.getElem?_map] at hx
  obtain ⟨r,hr1,rfl⟩:=Option.map_eq_some_iff.mp hx
  have hr2:=hrb r (List.mem_of_getElem? hr1)
  unfold tYes
  refine iteT ⟨_,rfl,_,rfl,_,rfl,_,_,rfl,rfl,_,rfl,l,nm,names,r,?_,by lia,g.2,g.1 nm _ nml (hb5.1 nm _ nml (b4.1 nm _ nml hnm)),nml,nl1,nl100,hnames,hr2.1,hr2.2,fun d v H6 gd hD hb6=>?_⟩
  ·show [V.ref l,V.ref nm,V.int (((n+1:Nat):Int)-1),V.int r]=[V.ref l,V.ref nm,V.int n,V.int r]
   rw [show (((n+1:Nat):Int)-1)=(n:Int) by lia]
  ·refine ⟨g.trans hb6,ds++[d],by rw [List.length_append,hs1];rfl,fun t ht=>?_,?_,?_⟩
   ·rcases List.mem_append.mp ht with h | h
    ·exact hs2 t h
    ·rw [List.mem_singleton.mp h];exact ⟨gd.1,gd.2.1,gd.2.2.1,gd.2.2.2.1⟩
   ·rw [List.map_append,List.sum_append,List.map_singleton,List.sum_singleton,List.take_add_one,hr1,List.sum_append]
    show _<=_+[r].sum
    rw [List.sum_singleton]
    have:=gd.2.2.2.2
    lia
   ·exact (hs3.keepT (Bg.keepT g.2 hb6) (x_g fun t ht=>(hs2 t ht).1)).append (.cons hD .nil)
 ·rintro ys H6 ⟨g,ds,hs1,hs2,hsm,hs3⟩ pc hpc
  refine ⟨pc,_,rfl,.inl ⟨SqL.of z_c,fun pt hpt=>?_⟩⟩
  have g7:=Bg.new g.2 hpc (.lst ys)
  have g8:=Bg.new g7.2 hpt (.tup ys)
  have g48:=(hb5.trans g).trans (g7.trans g8)
  have b8:=b4.trans g48
  have hs8:=hs3.same ((z_e hpc (.lst ys)).trans (z_e hpt (.tup ys)))
  have hw8:=g48.1 pw _ nw hw4
  have hpt8:(upd (upd H6 pc (.lst ys)) pt (.tup ys)) pt=some (.tup ys):=z_c
  show tSeq _ _ _ _ (upd (upd H6 pc (.lst ys)) pt (.tup ys))
  generalize upd (upd H6 pc (.lst ys)) pt (.tup ys)=H8 at b8 hs8 hw8 hpt8 ⊢
  have hdl:(ds.length:Int)=manyL.getD k 0:=by
   rw [hs1,List.length_map];exact hrl
  have htk:rs.take (rs.map V.int).length=rs:=by rw [List.length_map,List.take_length]
  rw [htk] at hsm
  have hyl:=hs8.length
  have hnL:noLs ds=true:=x_g fun t ht=>(hs2 t ht).1
  have hat:atI (wordL.map V.str) ((k:Nat):Int)=some (.str (wordL.getD k "")):=z_t (word_at hk14)
  have fin:∀ (z:Str) (hd:List PyData) (hv:List V) (p0:Addr) (Hf:Hp),Bg l H8 Hf->Hf p0=some (.tup (.str z::hv))->Dats Hf hd hv->z∈words->formK z=hd.length+1->(hd.length:Int)+manyL.getD k 0+1=((formN z:Nat):Int)->(∀ ds:List PyData,restD z (hd++ds)=true)->(∀ d∈hd,noL d=true/\szD d=true/\dpt n d=true)->rCatE (.ref p0) (.ref pt) Hf Q:=fun z hd hv p0 Hf gf h1 h2 h3 h4 h5 h6 h7=>by
   have kt:=Bg.keepT b8.2 gf
   have hvl:=h2.length
   have hfn:formN z<=4:=by unfold formN;repeat (first | lia | split)
   refine ⟨p0,pt,_,_,rfl,rfl,h1,kt _ _ hpt8,(by rw [List.length_cons];exact small (by lia)),fun p' H' sm hp'=>?_⟩
   refine q (.tuple (.str z::(hd++ds))) (.ref p') H' (good_mk h3 (by lia) h4 (h6 ds) h7 hs2 (by lia)) ?_ ((b8.trans gf).trans (gf.2.same sm))
   exact Dat.tup hp' (.cons (Dat.str z) ((h2.same sm).append ((hs8.keepT kt hnL).same sm)))
  refine ⟨_,rfl,_,rfl,pw,_,_,_,rfl,rfl,SqL.of hw8,hat,rfl,_,rfl,?_⟩
  by_cases h12:k=12
  ·refine y_b (decide_eq_true (by rw [wi5 h12])) ?_
   refine ⟨_,rfl,l,8,rfl,b8.2,by decide,by decide,fun d9 H9 d90 d91 hb9=>?_⟩
   refine ⟨_,rfl,zl3,fun p9 hp9=>?_⟩
   refine ⟨_,rfl,?_⟩
   refine fin "cut" [.int d9,.int (1+e)] [.int d9,.int (1+e)] p9 _ (hb9.trans (Bg.new hb9.2 hp9 _)) z_c (.cons (Dat.int _) (.cons (Dat.int _) .nil)) (by decide) (by show formK "cut" = 3;decide) ?_ ?_ ?_
   ·rw [h12]
    show (2:Int)+1+1=((formN "cut" : Nat):Int)
    decide
   ·intro ds
    show ((decide (0<=d9)&&decide (d9<=7))&&(decide (1<=1+e)&&decide (1+e<=8)))=true
    rw [decide_eq_true d90,decide_eq_true (by lia:d9<=7),decide_eq_true (by lia:1<=1+e),decide_eq_true (by lia:1+e<=8)]
    rfl
   ·intro d hd
    simp only [List.mem_cons,List.not_mem_nil,or_false] at hd
    rcases hd with rfl | rfl<;>exact ⟨by simp [noL],by simp [szD],v_j rfl⟩
  have ncut:wordL.getD k "" ≠ "cut" := cut_ne k hk14 h12
  refine z_s (decide_eq_false fun h=>ncut (by injection h)) ?_
  refine ⟨_,rfl,_,rfl,pw,_,_,_,rfl,rfl,SqL.of hw8,hat,rfl,_,rfl,?_⟩
  by_cases h13:k=13
  ·refine y_b (decide_eq_true (by rw [wi6 h13])) ?_
   refine ⟨_,rfl,l,4,rfl,b8.2,by decide,by decide,fun d9 H9 d90 d91 hb9=>?_⟩
   have hsh:=r_q (c:=2) (e:=d9) (by decide) (by decide) (by lia)
   refine ⟨_,_,rfl,rfl,⟨by lia,by lia,by decide⟩,_,rfl,by lia,by lia,v_q (lo:=0) (fun i ys H'=>Bg l H9 H'/\∃ ns:List Int,ys=ns.map V.int/\ns.length=i/\∀ j∈ns,0<=j/\j<2^(1+e).toNat) ⟨Bg.refl hb9.2,[],rfl,rfl,(fun _ h=>nomatch h)⟩ ?_ ?_ ?_⟩
   ·rintro i ys' H' hi ⟨g',ns,rfl,hns,_⟩
    rw [List.length_map]
    exact y_j (by lia)
   ·rintro i ys' H' hi ⟨g',ns,rfl,hns,hnr⟩
    unfold tYes
    refine iteT ⟨_,rfl,_,rfl,_,_,rfl,rfl,⟨by lia,by lia,by decide⟩,l,_,rfl,g'.2,(r_q (c:=1) (by decide) (by decide) (by lia)).1,Int.lt_of_le_of_lt (r_q (c:=1) (by decide) (by decide) (by lia)).2 (by decide),fun d10 H10 d100 d101 hb10=>?_⟩
    refine ⟨g'.trans hb10,ns++[d10],by rw [List.map_append];rfl,by rw [List.length_append,hns];rfl,fun j hj=>?_⟩
    rcases List.mem_append.mp hj with h | h
    ·exact hnr j h
    ·rw [List.mem_singleton.mp h];exact ⟨d100,by rw [Int.one_mul] at d101;exact d101⟩
   ·rintro ys' H10 ⟨g',ns,rfl,hns,hnr⟩ pc2 hpc2
    refine ⟨pc2,_,rfl,.inl ⟨SqL.of z_c,fun pn2 hpn2=>?_⟩⟩
    have g11:=Bg.new g'.2 hpc2 (.lst (ns.map V.int))
    have g12:=Bg.new g11.2 hpn2 (.tup (ns.map V.int))
    have g812:=(hb9.trans g').trans (g11.trans g12)
    have htl:=tab_len d90 d91
    have hns16:ns.length=2\/ns.length=4\/ns.length=8\/ns.length=16:=by lia
    refine ⟨_,rfl,_,rfl,zl3,fun p9 hp9=>?_⟩
    refine ⟨_,rfl,?_⟩
    refine fin "table" [.int (1+e),.tuple (ns.map PyData.int)] [.int (1+e),.ref pn2] p9 _ (g812.trans (Bg.new g12.2 hp9 _)) z_c (.cons (Dat.int _) (.cons (Dat.tup (by rw [y_a (z_r z_c hp9),z_c]) (Dats.ints ns)) .nil)) (by decide) (by show formK "table" = 3;decide) ?_ ?_ ?_
    ·rw [h13]
     show (2:Int)+1+1=((formN "table" : Nat):Int)
     decide
    ·intro ds
     show numsD (.tuple (ns.map PyData.int)) (.int (1+e))=true
     show ((decide ((ns.map PyData.int).length=2) || decide ((ns.map PyData.int).length=4) || decide ((ns.map PyData.int).length=8) || decide ((ns.map PyData.int).length=16))&&(ns.map PyData.int).all fun x=>numD x (.int (1+e)))=true
     rw [Bool.and_eq_true,List.length_map]
     refine ⟨?_,List.all_eq_true.mpr fun x hx=>?_⟩
     ·rcases hns16 with h | h | h | h<;>rw [h]<;>rfl
     ·obtain ⟨j,hj,rfl⟩:=List.mem_map.mp hx
      exact m_k (by lia) (by lia) (hnr j hj).1 (hnr j hj).2
    ·intro d hd
     simp only [List.mem_cons,List.not_mem_nil,or_false] at hd
     rcases hd with rfl | rfl
     ·exact ⟨by simp [noL],by simp [szD],v_j rfl⟩
     ·obtain ⟨m,rfl⟩:∃ m,n=m+1:=⟨n-1,by lia⟩
      refine ⟨noL_tup.mpr fun x hx=>?_,szD_tup.mpr ⟨by rw [List.length_map];lia,fun x hx=>?_⟩,m_a (by rw [List.length_map];lia) fun x hx=>?_⟩<;>obtain ⟨j,hj,rfl⟩:=List.mem_map.mp hx
      ·simp [noL]
      ·simp [szD]
      ·exact v_j rfl
  have ntab:wordL.getD k "" ≠ "table" := tab_ne k hk14 h13
  refine z_s (decide_eq_false fun h=>ntab (by injection h)) ?_
  by_cases h10:k=10
  ·refine ⟨_,rfl,rfl,_,rfl,y_b (decide_eq_true (by rw [h10];rfl)) ?_⟩
   refine iteT ?_
   refine ⟨_,rfl,_,rfl,pw,_,_,_,rfl,rfl,SqL.of hw8,hat,_,rfl,l,9,rfl,b8.2,by decide,by decide,fun d9 H9 d90 d91 hb9=>?_⟩
   refine ⟨zl2,fun p9 hp9=>?_⟩
   refine ⟨_,rfl,?_⟩
   refine fin (wordL.getD k "") [.int d9] [.int d9] p9 _ (hb9.trans (Bg.new hb9.2 hp9 _)) z_c (.cons (Dat.int _) .nil) wi1 ?_ ?_ ?_ ?_
   ·rw [wi3,if_pos (.inl h10)];rfl
   ·have h3:=wi2
    rw [wi3,if_pos (.inl h10)] at h3
    show ((1:Nat):Int)+_+1=_
    lia
   ·intro ds
    rw [wi7 h10]
    show betD (.int d9) 0 8=true
    show (decide (0<=d9)&&decide (d9<=8))=true
    rw [decide_eq_true d90,decide_eq_true (by lia)]
    rfl
   ·intro d hd
    rw [List.mem_singleton.mp hd]
    exact ⟨by simp [noL],by simp [szD],v_j rfl⟩
  refine ⟨_,rfl,rfl,_,rfl,z_s (decide_eq_false fun h=>by injection h with h;lia) ?_⟩
  by_cases h11:k=11
  ·refine ⟨_,rfl,rfl,_,rfl,y_b (decide_eq_true (by rw [h11];rfl)) ?_⟩
   refine ⟨_,rfl,_,rfl,pw,_,_,_,rfl,rfl,SqL.of hw8,hat,_,rfl,l,9,rfl,b8.2,by decide,by decide,fun d9 H9 d90 d91 hb9=>?_⟩
   refine ⟨zl2,fun p9 hp9=>?_⟩
   refine ⟨_,rfl,?_⟩
   refine fin (wordL.getD k "") [.int d9] [.int d9] p9 _ (hb9.trans (Bg.new hb9.2 hp9 _)) z_c (.cons (Dat.int _) .nil) wi1 ?_ ?_ ?_ ?_
   ·rw [wi3,if_pos (.inr h11)];rfl
   ·have h3:=wi2
    rw [wi3,if_pos (.inr h11)] at h3
    show ((1:Nat):Int)+_+1=_
    lia
   ·intro ds
    rw [wi8 h11]
    show betD (.int d9) 0 8=true
    show (decide (0<=d9)&&decide (d9<=8))=true
    rw [decide_eq_true d90,decide_eq_true (by lia)]
    rfl
   ·intro d hd
    rw [List.mem_singleton.mp hd]
    exact ⟨by simp [noL],by simp [szD],v_j rfl⟩
  refine ⟨_,rfl,rfl,_,rfl,z_s (decide_eq_false fun h=>by injection h with h;lia) ?_⟩
  refine ⟨_,rfl,_,rfl,pw,_,_,_,rfl,rfl,SqL.of hw8,hat,zl1,fun p9 hp9=>?_⟩
  refine ⟨_,rfl,?_⟩
  have hk1:formK (wordL.getD k "")=1:=by rw [wi3,if_neg (by lia),if_neg (by lia)]
  refine fin (wordL.getD k "") [] [] p9 _ (Bg.new b8.2 hp9 _) z_c .nil wi1 hk1 ?_ ?_ (fun _ h=>nomatch h)
  ·rw [hk1] at wi2
   show ((0:Nat):Int)+_+1=_
   lia
  ·intro ds
   unfold restD
   rw [if_neg (wn_ne k hk14).1,if_neg (wn_ne k hk14).2,if_neg (up_ne k hk14 h10 h11),if_neg ncut,if_neg ntab]
theorem ok_L_row(T:Tx w K mg A)(G_L_take:FnOk P w K mg base CX0 1 A.a_L_take A.d_L_take ["_law_bag_here", "_law_many"] v_h)(G_L_name:FnOk P w K mg base CX0 2 A.a_L_name A.d_L_name ["_law_bag_here"] u_w)(G_L_any:FnOk P w K mg base CX0 9 A.a_L_any A.d_L_any ["_law_bag_here", "_law_names", "_law_deep", "_law_room"] sp_any36):FnOk P w K mg base CX0 10 A.a_L_row A.d_L_row ["_law_bag_here", "_law_names", "_law_room"] n_p:=by
 refine T.F_L_row.ok sc_L_row (fun vs H Q E h=>?_) (fun cdv A' outer s H vs Q E hr h=>?_)
 ·obtain ⟨l,nm,names,room,rfl,hb,hnm,nml,nl1,nl100,hnames,room1,room40,q⟩:=h
  rfl
 obtain ⟨l,nm,names,room,rfl,hb,hnm,nml,nl1,nl100,hnames,room1,room40,q⟩:=h
 refine ⟨_,(z_d (z_p (i:=3) sc_L_row.nd rfl (Or.inl rfl) (z_h G_L_take (hr.mono (by first | decide | lia)) rfl T.M_L_take T.F_L_take.kp T.B_L_take .nil pass0 (z_a (pv 0) (z_a z_f z_b))))
  (z_d (z_p (i:=4) sc_L_row.nd rfl (Or.inl rfl) (z_u y_w z_f (z_h G_L_take (hr.mono (by first | decide | lia)) rfl T.M_L_take T.F_L_take.kp T.B_L_take .nil pass0 (z_a (pv 0) (z_a z_f z_b)))))
  (z_d (y_d (z_o y_q (pv 3) z_f (nomark _)) (z_g (z_l (y_k (z_a z_k (z_a (z_j z_v (pv 1) (z_h G_L_take (hr.mono (by first | decide | lia)) rfl T.M_L_take T.F_L_take.kp T.B_L_take .nil pass0 (z_a (pv 0) (z_a (z_i z_w rfl T.len PySem.boot_len (z_a (pv 1) z_b)) z_b))) (fun _ _=>rfl)) (z_a (pv 4) (z_a (z_h G_L_any (hr.mono (by first | decide | lia)) rfl T.M_L_any T.F_L_any.kp T.B_L_any .nil pass0 (z_a (pv 0) (z_a (pv 1) (z_a z_f (z_a (pv 2) z_b))))) z_b))))))) z_q)
  (z_d (y_d (z_o y_q (pv 3) z_f (nomark _)) (z_g (z_l (y_k (z_a z_k (z_a (z_h G_L_name (hr.mono (by first | decide | lia)) rfl T.M_L_name T.F_L_name.kp T.B_L_name .nil pass0 (z_a (pv 0) z_b)) (z_a (pv 4) (z_a (z_h G_L_take (hr.mono (by first | decide | lia)) rfl T.M_L_take T.F_L_take.kp T.B_L_take .nil pass0 (z_a (pv 0) (z_a (z_u m_n z_f (pv 4)) z_b))) (z_a (z_h G_L_any (hr.mono (by first | decide | lia)) rfl T.M_L_any T.F_L_any.kp T.B_L_any .nil pass0 (z_a (pv 0) (z_a (pv 1) (z_a z_f (z_a (pv 2) z_b))))) z_b)))))))) z_q)
  (z_d (z_p (i:=5) sc_L_row.nd rfl (Or.inl rfl) (z_y y_h rfl T.tuple PyProof.Rows.boot_tuple (z_a (y_o [0,1] (fun _ _ h=>h) rfl (y_x rfl T.range (z_a (z_h G_L_take (hr.mono (by first | decide | lia)) rfl T.M_L_take T.F_L_take.kp T.B_L_take .nil pass0 (z_a (pv 0) (z_a z_f z_b))) z_b)) (fun _ _ _ _=>y_m) (fun _ _ _ _=>(z_h G_L_any (hr.mono (by first | decide | lia)) rfl T.M_L_any T.F_L_any.kp T.B_L_any .nil pass0 (z_a (pv 1) (z_a (pv 2) (z_a z_f (z_a z_f z_b)))))) rfl (show ∀ j∈([0,1]:List Nat),j<8 by decide) (show (["_law_k", "_law_bag_here", "_law_names"]:List Str).Nodup by decide +kernel)) z_b)))
  (z_d (z_p (i:=6) sc_L_row.nd rfl (Or.inl rfl) (z_y y_h rfl T.tuple PyProof.Rows.boot_tuple (z_a (y_o [0] (fun _ _ h=>h) rfl (y_x rfl T.range (z_a (z_h G_L_take (hr.mono (by first | decide | lia)) rfl T.M_L_take T.F_L_take.kp T.B_L_take .nil pass0 (z_a (pv 0) (z_a z_f z_b))) z_b)) (fun _ _ _ _=>y_m) (fun _ _ _ _=>(z_h G_L_name (hr.mono (by first | decide | lia)) rfl T.M_L_name T.F_L_name.kp T.B_L_name .nil pass0 (z_a (pv 1) z_b))) rfl (show ∀ j∈([0]:List Nat),j<8 by decide) (show (["_law_k", "_law_bag_here"]:List Str).Nodup by decide +kernel)) z_b)))
  (z_d (z_p (i:=7) sc_L_row.nd rfl (Or.inl rfl) (y_k (z_a (z_h G_L_name (hr.mono (by first | decide | lia)) rfl T.M_L_name T.F_L_name.kp T.B_L_name .nil pass0 (z_a (pv 0) z_b)) (z_a (z_j z_v (pv 1) (z_h G_L_take (hr.mono (by first | decide | lia)) rfl T.M_L_take T.F_L_take.kp T.B_L_take .nil pass0 (z_a (pv 0) (z_a (z_i z_w rfl T.len PySem.boot_len (z_a (pv 1) z_b)) z_b))) (fun _ _=>rfl)) (z_a (pv 5) (z_a (pv 6) z_b))))))
  (z_d (y_d (z_o y_q (pv 3) z_f (nomark _)) (z_g (z_l (z_u v_o (y_k (z_a z_k z_b)) (pv 7)))) z_q)
  (z_g (z_l (z_u v_o (y_k (z_a z_k (z_a (z_u y_w z_f (z_h G_L_take (hr.mono (by first | decide | lia)) rfl T.M_L_take T.F_L_take.kp T.B_L_take .nil pass0 (z_a (pv 0) (z_a z_f z_b)))) z_b))) (pv 7)))))))))))),?_⟩
 have ln:(names.map V.str).length=names.length:=List.length_map _
 refine ⟨_,rfl,l,4,rfl,hb,by decide,by decide,fun kd H1 kd0 kd1 b1=>?_⟩
 refine ⟨_,rfl,l,8,rfl,b1.2,by decide,by decide,fun e H2 e0 e1 hb2=>?_⟩
 refine ⟨_,_,rfl,rfl,?_⟩
 have b2:=b1.trans hb2
 have hn2:=b2.1 nm _ nml hnm
 have hw:(((1+e).toNat:Nat):Int)=1+e:=by lia
 refine ⟨_,rfl,rfl,_,rfl,?_⟩
 refine ite2 (fun c=>?_) (fun c=>?_)
 ·refine ⟨_,rfl,_,rfl,_,rfl,_,_,rfl,.inl ⟨_,SqL.of hn2,rfl⟩,l,_,rfl,b2.2,(by rw [ln];lia),Int.lt_of_le_of_lt (show _<=(100:Int) by rw [ln];lia) (by decide),fun d5 H5 d50 d51 hb5=>?_⟩
  rw [ln] at d51
  obtain ⟨k5,rfl⟩:=Int.eq_ofNat_of_zero_le d50
  have hk5:k5<names.length:=by lia
  have b5:=b2.trans hb5
  have hn5:=b5.1 nm _ nml hnm
  refine ⟨nm,_,_,_,rfl,rfl,SqL.of hn5,(show atI _ ((k5:Nat):Int)=some (.str names[k5]) from z_t (by rw [List.getElem?_map,List.getElem?_eq_getElem hk5];rfl)),_,rfl,_,rfl,_,rfl,_,rfl,.inl ⟨l,nm,names,room,rfl,by decide,b5.2,hn5,nml,nl1,nl100,hnames,room1,by lia,fun d v H6 gd hD hb6=>?_⟩⟩
  refine ⟨zl4,fun p hp=>?_⟩
  have b6:=b5.trans hb6
  exact q (.wire names[k5] (1+e).toNat d) (.ref p) _ (rwg_wire ⟨hnames _ (List.getElem_mem hk5),by lia,by lia,m_e gd room40⟩) (Dat.tup z_c (.cons (Dat.str _) (.cons (Dat.str _) (.cons (Dat.nat hw) (.cons (hD.same (z_e hp _)) .nil))))) (b6.trans (Bg.new b6.2 hp _))
 refine ⟨_,rfl,rfl,_,rfl,?_⟩
 refine ite2 (fun c=>?_) (fun c=>?_)
 ·refine ⟨_,rfl,l,rfl,b2.2,fun z H3 hz hb3=>?_⟩
  have b3:=b2.trans hb3
  refine ⟨_,rfl,_,rfl,_,rfl,_,_,rfl,rfl,⟨by lia,by lia,by decide⟩,l,_,rfl,b3.2,(r_q (c:=1) (by decide) (by decide) (by lia)).1,Int.lt_of_le_of_lt (r_q (c:=1) (by decide) (by decide) (by lia)).2 (by decide),fun d5 H5 d50 d51 hb5=>?_⟩
  have b5:=b3.trans hb5
  have hn5:=b5.1 nm _ nml hnm
  refine ⟨_,rfl,_,rfl,_,rfl,.inl ⟨l,nm,names,room,rfl,by decide,b5.2,hn5,nml,nl1,nl100,hnames,room1,by lia,fun d v H6 gd hD hb6=>?_⟩⟩
  refine ⟨zl5,fun p hp=>?_⟩
  have b6:=b5.trans hb6
  have hx:d5.toNat<2^(1+e).toNat:=by
   rw [Int.one_mul] at d51
   have h2:((2^(1+e).toNat:Nat):Int)=2^(1+e).toNat:=Int.natCast_pow _ _
   rw [<-h2] at d51
   lia
  exact q (.box z (1+e).toNat d5.toNat d) (.ref p) _ (rwg_box ⟨hz,by lia,by lia,hx,m_e gd room40⟩) (Dat.tup z_c (.cons (Dat.str _) (.cons (Dat.str _) (.cons (Dat.nat hw) (.cons (Dat.nat (by lia)) (.cons (hD.same (z_e hp _)) .nil)))))) (b6.trans (Bg.new b6.2 hp _))
 refine ⟨_,rfl,l,5,rfl,b2.2,by decide,by decide,fun m1 H3 m10 m11 hb3=>?_⟩
 have b3:=b2.trans hb3
 have hn3:=b3.1 nm _ nml hnm
 refine ⟨_,rfl,by lia,by lia,v_q (lo:=0) (fun i ys H'=>Bg l H3 H'/\∃ ds:List PyData,ds.length=i/\(∀ d∈ds,SyOk d/\pcs 6 d<=5)/\Dats H' ds ys) ⟨Bg.refl hb3.2,[],rfl,(fun _ h=>nomatch h),Dats.nil⟩ ?_ ?_ ?_⟩
 ·rintro i ys H' hi ⟨g,ds,h1,h2,h3⟩
  have:=h3.length
  exact y_j (by lia)
 ·rintro i ys H' hi ⟨g,ds,h1,h2,h3⟩
  unfold tYes
  refine iteT ⟨_,rfl,_,rfl,.inr ⟨l,nm,names,5,rfl,by decide,g.2,g.1 nm _ nml hn3,nml,nl1,nl100,hnames,by decide,by decide,fun d v H6 gd hD hb6=>?_⟩⟩
  refine ⟨g.trans hb6,ds++[d],by rw [List.length_append,h1];rfl,fun t ht=>?_,?_⟩
  ·rcases List.mem_append.mp ht with h | h
   ·exact h2 t h
   ·rw [List.mem_singleton.mp h];exact good_sy3 gd
  ·exact (h3.keepT (Bg.keepT g.2 hb6) (x_g fun t ht=>(h2 t ht).1.2.2)).append (.cons hD .nil)
 rintro ys H4 ⟨g,ds,h1,h2,h3⟩ pc hpc
 refine ⟨pc,_,rfl,.inl ⟨SqL.of z_c,fun pt hpt=>?_⟩⟩
 have g7:=Bg.new g.2 hpc (.lst ys)
 have g8:=Bg.new g7.2 hpt (.tup ys)
 have b8:=(b3.trans g).trans (g7.trans g8)
 have hs8:=h3.same ((z_e hpc (.lst ys)).trans (z_e hpt (.tup ys)))
 have hpt8:(upd (upd H4 pc (.lst ys)) pt (.tup ys)) pt=some (.tup ys):=z_c
 dsimp only [gName]
 generalize upd (upd H4 pc (.lst ys)) pt (.tup ys)=H8 at b8 hs8 hpt8 ⊢
 clear g7 g8 h3 hpc hpt
 have nLd:noLs ds=true:=x_g fun t ht=>(h2 t ht).1.2.2
 refine ⟨_,rfl,l,5,rfl,b8.2,by decide,by decide,fun m2 H9 m20 m21 hb9=>?_⟩
 have b9:=b8.trans hb9
 have k9:=Bg.keepT b8.2 hb9
 refine ⟨_,rfl,by lia,by lia,v_q (lo:=0) (fun i ys H'=>Bg l H9 H'/\∃ ns:List Str,ys=sV ns/\ns.length=i/\∀ z∈ns,NmO z) ⟨Bg.refl hb9.2,[],rfl,rfl,(fun _ h=>nomatch h)⟩ ?_ ?_ ?_⟩
 ·rintro i ys H' hi ⟨g,ns,rfl,h1,_⟩
  rw [z_z]
  exact y_j (by lia)
 ·rintro i ys H' hi ⟨g,ns,rfl,h1,hz⟩
  unfold tYes
  refine iteT ⟨_,rfl,l,rfl,g.2,fun z H6 hz6 hb6=>?_⟩
  refine ⟨g.trans hb6,ns++[z],by rw [w_c];rfl,by rw [List.length_append,h1];rfl,fun t ht=>?_⟩
  rcases List.mem_append.mp ht with h | h
  ·exact hz t h
  ·rw [List.mem_singleton.mp h];exact hz6
 rintro ys' H10 ⟨g10,ns,rfl,n1,hz⟩ pc hpc
 refine ⟨pc,_,rfl,.inl ⟨SqL.of z_c,fun pt2 hpt2=>?_⟩⟩
 have g7:=Bg.new g10.2 hpc (.lst (sV ns))
 have g8:=Bg.new g7.2 hpt2 (.tup (sV ns))
 have b11:=(b9.trans g10).trans (g7.trans g8)
 have k11:=k9.trans (Bg.keepT hb9.2 (g10.trans (g7.trans g8)))
 have hpt11:(upd (upd H10 pc (.lst (sV ns))) pt2 (.tup (sV ns))) pt2=some (.tup (sV ns)):=z_c
 dsimp only [gName]
 generalize upd (upd H10 pc (.lst (sV ns))) pt2 (.tup (sV ns))=H11 at b11 k11 hpt11 ⊢
 clear g7 g8 g10 k9 b9 hb9 hpc hpt2
 refine ⟨_,rfl,l,rfl,b11.2,fun z1 H12 hz1 hb12=>?_⟩
 have b12:=b11.trans hb12
 have hn12:=b12.1 nm _ nml hnm
 refine ⟨_,rfl,_,rfl,_,rfl,_,_,rfl,.inl ⟨_,SqL.of hn12,rfl⟩,l,_,rfl,b12.2,(by rw [ln];lia),Int.lt_of_le_of_lt (show _<=(100:Int) by rw [ln];lia) (by decide),fun d5 H13 d50 d51 hb13=>?_⟩
 rw [ln] at d51
 obtain ⟨k5,rfl⟩:=Int.eq_ofNat_of_zero_le d50
 have hk5:k5<names.length:=by lia
 have b13:=b12.trans hb13
 have hn13:=b13.1 nm _ nml hnm
 refine ⟨nm,_,_,_,rfl,rfl,SqL.of hn13,(show atI _ ((k5:Nat):Int)=some (.str names[k5]) from z_t (by rw [List.getElem?_map,List.getElem?_eq_getElem hk5];rfl)),_,rfl,_,rfl,zl4,fun pu hpu=>?_⟩
 have kb:=(Bg.keepT b11.2 (hb12.trans hb13)).trans (KeepT.same (z_e hpu (.tup [.str z1,.str names[k5],.ref pt,.ref pt2])))
 have b14:=b13.trans (Bg.new b13.2 hpu (.tup [.str z1,.str names[k5],.ref pt,.ref pt2]))
 have hu:(upd H13 pu (.tup [.str z1,.str names[k5],.ref pt,.ref pt2])) pu=some (.tup [.str z1,.str names[k5],.ref pt,.ref pt2]):=z_c
 dsimp only [gName]
 generalize upd H13 pu (.tup [.str z1,.str names[k5],.ref pt,.ref pt2])=H14 at b14 kb hu ⊢
 have hU:=use_datP (a:=z1) (b:=names[k5]) (hs8.keepT (k11.trans kb) nLd) ((k11.trans kb) _ _ hpt8) (kb _ _ hpt11)
 have okU:∀ t:Option Nat,(∀ k,t=some k->1<=k/\k<=8)->RwG (.use t z1 names[k5] ds ns):=fun t ht=>rwg_use ⟨ht,hz1,hnames _ (List.getElem_mem hk5),by lia,by lia,fun s hs=>(h2 s hs).1,hz⟩ (by lia) (by lia) fun s hs=>(h2 s hs).2
 refine ⟨_,rfl,rfl,_,rfl,?_⟩
 refine ite2 (fun c=>?_) (fun c=>?_)
 ·refine ⟨zl1,fun p1 hp1=>⟨_,rfl,?_⟩⟩
  refine ⟨p1,pu,_,_,rfl,rfl,z_c,z_e hp1 _ _ _ hu,small (by show 1+4<=100000;decide),fun p' H' sm hp'=>?_⟩
  exact q (.use none z1 names[k5] ds ns) (.ref p') H' (okU none (fun _ h=>nomatch h)) (Dat.tup hp' (.cons (Dat.str _) ((hU.same (z_e hp1 _)).same sm))) (b14.trans ((Bg.new b14.2 hp1 _).trans ((Bg.new b14.2 hp1 _).2.same sm)))
 ·refine ⟨_,rfl,l,8,rfl,b14.2,by decide,by decide,fun t H15 t0 t1 hb15=>?_⟩
  refine ⟨_,_,rfl,rfl,?_⟩
  refine ⟨zl2,fun p1 hp1=>⟨_,rfl,?_⟩⟩
  have kt:=Bg.keepT b14.2 hb15
  have b15:=b14.trans hb15
  refine ⟨p1,pu,_,_,rfl,rfl,z_c,z_e hp1 _ _ _ (kt _ _ hu),small (by show 2+4<=100000;decide),fun p' H' sm hp'=>?_⟩
  have nLu:noLs [.str z1,.str names[k5],.tuple ds,.tuple (ns.map PyData.str)]=true:=by
   have h:=m_i ns
   simp [noLs,noL,nLd,h]
  exact q (.use (some (1+t).toNat) z1 names[k5] ds ns) (.ref p') H' (okU _ (fun k h=>by cases h;lia)) (Dat.tup hp' (.cons (Dat.str _) (.cons (Dat.nat (by lia)) (((hU.keepT kt nLu).same (z_e hp1 _)).same sm)))) (b15.trans ((Bg.new b15.2 hp1 _).trans ((Bg.new b15.2 hp1 _).2.same sm)))
theorem j_w(T:Tx w K mg A)(G_L_name:FnOk P w K mg base CX0 2 A.a_L_name A.d_L_name ["_law_bag_here"] u_w)(G_L_take:FnOk P w K mg base CX0 1 A.a_L_take A.d_L_take ["_law_bag_here", "_law_many"] v_h)(G_L_row:FnOk P w K mg base CX0 10 A.a_L_row A.d_L_row ["_law_bag_here", "_law_names", "_law_room"] n_p):FnOk P w K mg base CX0 11 A.a_L_plan A.d_L_plan ["_law_bag_here"] m_y:=by
 refine T.F_L_plan.ok sc_L_plan (fun vs H Q E h=>?_) (fun cdv A' outer s H vs Q E hr h=>?_)
 ·obtain ⟨l,rfl,hb,q⟩:=h
  rfl
 obtain ⟨l,rfl,hb,q⟩:=h
 conv in (v_l _)=>whnf
 simp only [o_x,o_y]
 refine ⟨_,(z_d (z_p (i:=1) sc_L_plan.nd rfl (Or.inr rfl) (z_u u_h (y_o [0] (fun _ _ h=>h) rfl (y_x rfl T.range (z_a z_f z_b)) (fun _ _ _ _=>y_m) (fun _ _ _ _=>(z_h G_L_name (hr.mono (by first | decide | lia)) rfl T.M_L_name T.F_L_name.kp T.B_L_name .nil pass0 (z_a (pv 1) z_b))) rfl (show ∀ j∈([0]:List Nat),j<9 by decide) (show (["_law_k", "_law_bag_here"]:List Str).Nodup by decide +kernel)) (q_x rfl)))
  (z_d (z_p (i:=2) sc_L_plan.nd rfl (Or.inl rfl) (y_u z_b))
  (z_d (x_j PassesOwn.never rfl (y_x rfl T.range (z_a (z_u y_w z_f (z_h G_L_take (hr.mono (by first | decide | lia)) rfl T.M_L_take T.F_L_take.kp T.B_L_take .nil pass0 (z_a (pv 0) (z_a z_f z_b)))) z_b)) (y_g (i:=3) sc_L_plan.nd rfl (Or.inl rfl))
    (z_d (z_p (i:=4) sc_L_plan.nd rfl (Or.inl rfl) (y_u z_b))
  (z_d (x_j PassesOwn.never rfl (y_x rfl T.range (z_a z_f z_b)) (y_g (i:=5) sc_L_plan.nd rfl (Or.inl rfl))
    (z_d (z_p (i:=6) sc_L_plan.nd rfl (Or.inl rfl) (z_u y_w (z_h G_L_take (hr.mono (by first | decide | lia)) rfl T.M_L_take T.F_L_take.kp T.B_L_take .nil pass0 (z_a (pv 0) (z_a z_f z_b))) (z_u s_l z_f (z_y p_p rfl T.int PyProof.Rows.boot_int (z_a (x_q y_q (z_h G_L_take (hr.mono (by first | decide | lia)) rfl T.M_L_take T.F_L_take.kp T.B_L_take .nil pass0 (z_a (pv 0) (z_a z_f z_b))) z_f (nomark _)) z_b)))))
  (z_g (y_z (w_t PySem.F.plainAttrs_list PySem.F.slot_list_append PySem.F.type_list_append x_e (pv 4) (z_a (z_y y_h rfl T.tuple PyProof.Rows.boot_tuple (z_a (y_o [1,0] (fun _ _ h=>h) rfl (y_x rfl T.range (z_a (pv 6) z_b)) (fun _ _ _ _=>y_m) (fun _ _ _ _=>(y_k (z_a (z_j (ix_listK (K:=K) rfl) (pv 1) (z_h G_L_take (hr.mono (by first | decide | lia)) rfl T.M_L_take T.F_L_take.kp T.B_L_take .nil pass0 (z_a (pv 2) (z_a z_f z_b))) (fun _ _=>rfl)) (z_a (z_u y_w z_f (z_h G_L_take (hr.mono (by first | decide | lia)) rfl T.M_L_take T.F_L_take.kp T.B_L_take .nil pass0 (z_a (pv 2) (z_a z_f z_b)))) z_b)))) rfl (show ∀ j∈([1,0]:List Nat),j<9 by decide) (show (["_law_j", "_law_names", "_law_bag_here"]:List Str).Nodup by decide +kernel)) z_b)) z_b))))))
  (z_d (z_p (i:=7) sc_L_plan.nd rfl (Or.inl rfl) (y_u z_b))
  (z_d (x_j PassesOwn.never rfl (y_x rfl T.range (z_a (z_h G_L_take (hr.mono (by first | decide | lia)) rfl T.M_L_take T.F_L_take.kp T.B_L_take .nil pass0 (z_a (pv 0) (z_a z_f z_b))) z_b)) (y_g (i:=8) sc_L_plan.nd rfl (Or.inl rfl))
    (z_g (y_z (w_t PySem.F.plainAttrs_list PySem.F.slot_list_append PySem.F.type_list_append x_e (pv 7) (z_a (z_h G_L_row (hr.mono (by first | decide | lia)) rfl T.M_L_row T.F_L_row.kp T.B_L_row .nil pass0 (z_a (pv 0) (z_a (pv 1) (z_a (z_u y_w z_f (z_u s_l z_f (z_y p_p rfl T.int PyProof.Rows.boot_int (z_a (x_h (x_q y_q (z_u y_w (pv 3) (pv 8)) z_f (nomark _)) (x_r (x_q y_q (z_h G_L_take (hr.mono (by first | decide | lia)) rfl T.M_L_take T.F_L_take.kp T.B_L_take .nil pass0 (z_a (pv 0) (z_a z_f z_b))) z_f (nomark _)))) z_b)))) z_b)))) z_b)))))
  (z_g (y_z (w_t PySem.F.plainAttrs_list PySem.F.slot_list_append PySem.F.type_list_append x_e (pv 2) (z_a (y_k (z_a (z_j z_v (pv 1) (z_h G_L_take (hr.mono (by first | decide | lia)) rfl T.M_L_take T.F_L_take.kp T.B_L_take .nil pass0 (z_a (pv 0) (z_a z_f z_b))) (fun _ _=>rfl)) (z_a (z_j z_v (pv 4) z_f (fun _ _=>rfl)) (z_a (z_j z_v (pv 4) z_f (fun _ _=>rfl)) (z_a (z_y y_h rfl T.tuple PyProof.Rows.boot_tuple (z_a (pv 7) z_b)) z_b))))) z_b)))))))))
  (z_g (z_l (pv 2)))))),?_⟩
 refine ⟨_,rfl,by decide,by decide,v_q (lo:=0) (fun i ys H'=>Bg l H H'/\∃ ns:List Str,ys=sV ns/\ns.length=i/\∀ z∈ns,NmO z) ⟨Bg.refl hb,[],rfl,rfl,(fun _ h=>nomatch h)⟩ ?_ ?_ ?_⟩
 ·rintro i ys H' hi ⟨g,ns,rfl,h1,_⟩
  rw [z_z]
  exact y_j (by have:i<4:=hi;lia)
 ·rintro i ys H' hi ⟨g,ns,rfl,h1,hz⟩
  unfold tYes
  refine iteT ⟨_,rfl,l,rfl,g.2,fun z H6 hz6 hb6=>?_⟩
  refine ⟨g.trans hb6,ns++[z],by rw [w_c];rfl,by rw [List.length_append,h1];rfl,fun t ht=>?_⟩
  rcases List.mem_append.mp ht with h | h
  ·exact hz t h
  ·rw [List.mem_singleton.mp h];exact hz6
 rintro ys H1 ⟨g1,ns,rfl,n1,hz⟩ pc hpc
 have n4:ns.length=4:=n1
 have b2:=g1.trans (Bg.new g1.2 hpc (.lst (sV ns)))
 refine ⟨zl7,fun p7 hp7=>?_⟩
 have b3:=b2.trans (Bg.new b2.2 hp7 (.lst (nm7.map V.str)))
 refine ⟨pc,p7,sV ns,nm7.map V.str,rfl,rfl,z_e hp7 _ _ _ z_c,z_c,(by rw [z_z,n4];exact small (by show 4+7<=100000;decide)),fun nm hnm=>?_⟩
 have b4:=b3.trans (Bg.new b3.2 hnm (.lst (sV ns++nm7.map V.str)))
 have nml:nm≠l:=b3.2.ne hnm
 have nm0:=b3.free hnm
 have fn4:=z_c (H:=upd (upd H1 pc (.lst (sV ns))) p7 (.lst (nm7.map V.str))) (a:=nm) (o:=.lst (sV ns++nm7.map V.str))
 rw [show sV ns++nm7.map V.str=(ns++nm7).map V.str from List.map_append.symm] at b4 fn4
 dsimp only [gName]
 rw [show ([V.str "in",V.str "out",V.str "end",V.str "part",V.str "use",V.str "times",V.str "box"]:List V)=nm7.map V.str from rfl,show sV ns++nm7.map V.str=(ns++nm7).map V.str from List.map_append.symm]
 have ln:(ns++nm7).length=11:=by rw [List.length_append,n4];rfl
 have hnames:∀ z∈ns++nm7,NmO z:=fun z h=>(List.mem_append.mp h).elim (hz z) (nm7_ok z)
 generalize ns++nm7=names at b4 fn4 ln hnames ⊢
 generalize upd (upd (upd H1 pc (.lst (sV ns))) p7 (.lst (nm7.map V.str))) nm (.lst (names.map V.str))=H4 at b4 fn4 ⊢
 clear b3 b2 g1 hpc hp7 hnm hz n1 n4
 have lnV:(names.map V.str).length=11:=by rw [List.length_map,ln]
 refine ⟨zl0,fun pp hpp=>?_⟩
 have npl:pp≠l:=b4.2.ne hpp
 have pp0:=b4.free hpp
 have nnp:nm≠pp:=z_r fn4 hpp
 have b5:=b4.trans (Bg.new b4.2 hpp (.lst []))
 have fn5:=z_e hpp (.lst []) _ _ fn4
 have fp5:=z_c (H:=H4) (a:=pp) (o:=.lst [])
 dsimp only [gName]
 generalize upd H4 pp (.lst [])=H5 at b5 fn5 fp5 ⊢
 clear b4 fn4 hpp
 refine ⟨_,rfl,l,3,rfl,b5.2,by decide,by decide,fun d H6 d0 d1 hb6=>?_⟩
 refine ⟨_,_,rfl,rfl,_,rfl,by lia,by lia,x_i (lo:=0) (fun i σ J=>∃ (x3 x4 x5 x6 x7 x8:Option V) (ps:List PPt) (xs:List V),σ=[some (.ref l),some (.ref nm),some (.ref pp),x3,x4,x5,x6,x7,x8]/\Bg l H J/\J nm=some (.lst (names.map V.str))/\J pp=some (.lst xs)/\Dats J (ps.map PPt.dat) xs/\ps.length=i/\∀ q∈ps,PtG q) ⟨_,_,_,_,_,_,[],[],rfl,b5.trans hb6,hb6.1 nm _ nml fn5,hb6.1 pp _ npl fp5,.nil,rfl,(fun _ h=>nomatch h)⟩ ?_ ?_⟩
 ·rintro i σ J hi ⟨x3,x4,x5,x6,x7,x8,ps,xs,rfl,bJ,fn,fp,hD,hl,hG⟩
  clear fn5 fp5 hb6 b5
  refine ⟨zl0,fun dd hdd=>?_⟩
  have ndl:dd≠l:=bJ.2.ne hdd
  have fdd:=z_c (H:=J) (a:=dd) (o:=.lst [])
  have gA:Bg l J (upd J dd (.lst [])):=Bg.new bJ.2 hdd _
  dsimp only [gName]
  generalize upd J dd (.lst [])=J1 at gA fdd ⊢
  refine ⟨_,rfl,by decide,by decide,x_i (lo:=0) (fun k σ J'=>∃ (x5 x6:Option V) (Qs:List (List (Str×Nat))) (ys:List V),σ=[some (.ref l),some (.ref nm),some (.ref pp),some (.int (0+(i:Int))),some (.ref dd),x5,x6,x7,x8]/\Bg l J J'/\J' dd=some (.lst ys)/\Dats J' (Qs.map drD) ys/\Qs.length=k/\∀ q∈Qs,q.length<=8/\∀ x∈q,PtOk x) ⟨_,_,[],[],rfl,gA,fdd,.nil,rfl,(fun _ h=>nomatch h)⟩ ?_ ?_⟩
  ·rintro k σ J2 hk ⟨x5,x6,Qs,ys,rfl,g2,fd2,hQ,lQ,oQ⟩
   refine ⟨_,rfl,l,4,rfl,g2.2,by decide,by decide,fun d1 J3 d10 d11 hb3=>?_⟩
   refine ⟨_,rfl,l,8,rfl,hb3.2,by decide,by decide,fun d2 J4 d20 d21 hb4=>?_⟩
   refine ⟨rfl,.inr ⟨_,rfl,_,_,rfl,rfl,.inl ⟨by decide,by decide⟩,_,_,rfl,rfl,?_⟩⟩
   have hm:0<=d1+5*(if decide (V.int d2=V.int 7)=true then 1 else 0)/\d1+5*(if decide (V.int d2=V.int 7)=true then 1 else 0)<=8:=by split<;>lia
   dsimp only [gName]
   generalize d1+5*(if decide (V.int d2=V.int 7)=true then 1 else 0)=m at hm ⊢
   have hb34:=hb3.trans hb4
   have g4:=g2.trans hb34
   have fd4:=hb34.1 dd _ ndl fd2
   have hQ4:=hQ.keepT (Bg.keepT g2.2 hb34) (n_b Qs)
   have fn4:=g4.1 nm _ nml fn
   clear hb3 hb34 fd2 hQ
   refine ⟨_,rfl,.inl ⟨rfl,_,SqL.of fd4⟩,_,rfl,_,rfl,by lia,by lia,v_q (lo:=0) (fun i ys H'=>Bg l J4 H'/\∃ qs:List (Str×Nat),qs.length=i/\(∀ x∈qs,PtOk x)/\Dats H' (qs.map portP) ys) ⟨Bg.refl hb4.2,[],rfl,(fun _ h=>nomatch h),.nil⟩ ?_ ?_ ?_⟩
   ·rintro i ys H' hi ⟨g,qs,h1,_,h3⟩
    have:=h3.length
    rw [List.length_map] at this
    exact y_j (by lia)
   ·rintro i ys H' hi ⟨g,qs,h1,h2,h3⟩
    unfold tYes
    refine iteT ⟨_,rfl,_,rfl,l,11,rfl,g.2,by decide,by decide,fun e J5 e0 e1 hb5=>?_⟩
    obtain ⟨k5,rfl⟩:=Int.eq_ofNat_of_zero_le e0
    have hk5:k5<names.length:=by lia
    have g5:=g.trans hb5
    refine ⟨nm,_,_,_,rfl,rfl,SqL.of (g5.1 nm _ nml fn4),(show atI _ ((k5:Nat):Int)=some (.str names[k5]) from z_t (by rw [List.getElem?_map,List.getElem?_eq_getElem hk5];rfl)),_,rfl,l,8,rfl,g5.2,by decide,by decide,fun f J6 f0 f1 hb6=>⟨_,_,rfl,rfl,zl2,fun p hp=>?_⟩⟩
    have g6:=g5.trans hb6
    refine ⟨g6.trans (Bg.new g6.2 hp _),qs++[(names[k5],(1+f).toNat)],by rw [List.length_append,h1];rfl,fun t ht=>?_,?_⟩
    ·rcases List.mem_append.mp ht with h | h
     ·exact h2 t h
     ·rw [List.mem_singleton.mp h];exact ⟨hnames _ (List.getElem_mem hk5),by show 1<=(1+f).toNat;lia,by show (1+f).toNat<=8;lia⟩
    ·rw [List.map_append]
     exact ((h3.keepT (Bg.keepT g.2 (hb5.trans hb6)) (v_s qs)).same (z_e hp _)).append (.cons (Dat.tup z_c (.cons (Dat.str _) (.cons (Dat.nat (by lia)) .nil))) .nil)
   rintro zs J5 ⟨g5,qs,h1,h2,h3⟩ pc hpc
   refine ⟨pc,_,rfl,.inl ⟨SqL.of z_c,fun pt hpt=>?_⟩⟩
   have s6:=(z_e hpc (.lst zs)).trans (z_e hpt (.tup zs))
   have g6:=g5.trans ((g5.2.same (z_e hpc (.lst zs))).trans ((g5.2.same (z_e hpc (.lst zs))).2.same (z_e hpt (.tup zs))))
   have f6:=z_c (H:=upd J5 pc (.lst zs)) (a:=pt) (o:=.tup zs)
   have h6:=h3.same s6
   generalize upd (upd J5 pc (.lst zs)) pt (.tup zs)=J6 at s6 g6 f6 h6 ⊢
   have hQ6:=hQ4.keepT (Bg.keepT hb4.2 g6) (n_b Qs)
   have fd6:=g6.1 dd _ ndl fd4
   have kk:=KeepT.lst fd6 (.lst (ys++[.ref pt]))
   have lq:=hQ6.length
   rw [List.length_map] at lq
   refine ⟨dd,_,_,rfl,rfl,fd6,y_j (by lia),?_⟩
   refine ⟨_,_,Qs++[qs],ys++[.ref pt],rfl,(g4.trans g6).set hdd ndl _,z_c,?_,by rw [List.length_append,lQ];rfl,fun t ht=>?_⟩
   ·rw [List.map_append]
    exact (hQ6.keepT kk (n_b Qs)).append (.cons (Dat.tup (kk _ _ f6) (h6.keepT kk (v_s qs))) .nil)
   ·rcases List.mem_append.mp ht with h | h
    ·exact oQ t h
    ·rw [List.mem_singleton.mp h]
     exact ⟨by lia,h2⟩
  rintro σ J2 ⟨x5,x6,Qs,ys,rfl,g2,fd2,hQ,lQ,oQ⟩
  obtain ⟨Q1,Q2,rfl⟩:∃ Q1 Q2,Qs=[Q1,Q2]:=by
   match Qs,(show Qs.length=2 from lQ) with
   | [a,b],_=>exact ⟨a,b,rfl⟩
  obtain ⟨y1,r1,rfl,hy1,hQ⟩:=hQ.consI
  obtain ⟨y2,r2,rfl,hy2,hQ⟩:=hQ.consI
  cases hQ.nilI
  have fn2:=g2.1 nm _ nml fn
  clear gA fdd lQ hQ
  refine ⟨zl0,fun rr hrr=>?_⟩
  have nrl:rr≠l:=g2.2.ne hrr
  have gB:Bg l J2 (upd J2 rr (.lst [])):=Bg.new g2.2 hrr _
  have frr:=z_c (H:=J2) (a:=rr) (o:=.lst [])
  dsimp only [gName]
  generalize upd J2 rr (.lst [])=J3 at gB frr ⊢
  refine ⟨_,rfl,l,6,rfl,gB.2,by decide,by decide,fun m J4 m0 m1 hb4=>?_⟩
  refine ⟨_,rfl,by lia,by lia,x_i (lo:=0) (fun k σ J'=>∃ (x8:Option V) (rs:List PRw) (zs:List V),σ=[some (.ref l),some (.ref nm),some (.ref pp),some (.int (0+(i:Int))),some (.ref dd),x5,x6,some (.ref rr),x8]/\Bg l J2 J'/\J' rr=some (.lst zs)/\Dats J' (rs.map PRw.dat) zs/\rs.length=k/\∀ r∈rs,RwG r) ⟨_,[],[],rfl,gB.trans hb4,hb4.1 rr _ nrl frr,.nil,rfl,(fun _ h=>nomatch h)⟩ ?_ ?_⟩
  ·rintro k σ J5 hk ⟨x8,rs,zs,rfl,g5,f5,h5,l5,o5⟩
   have key:∀ (room:Int) (J6:Hp),Bg l J5 J6->1<=room->room<=40->n_p [.ref l,.ref nm,.int room] J6 (fun v H'=>rAppend (.ref rr) [v] H' fun _ J'=>∃ (x8:Option V) (rs:List PRw) (zs:List V),[some (.ref l),some (.ref nm),some (.ref pp),some (.int (0+(i:Int))),some (.ref dd),x5,x6,some (.ref rr),some (.int (0+(k:Int)))]=[some (.ref l),some (.ref nm),some (.ref pp),some (.int (0+(i:Int))),some (.ref dd),x5,x6,some (.ref rr),x8]/\Bg l J2 J'/\J' rr=some (.lst zs)/\Dats J' (rs.map PRw.dat) zs/\rs.length=k+1/\∀ r∈rs,RwG r) E0:=fun room J6 g6 r1 r40=>by
    refine ⟨l,nm,names,room,rfl,g6.2,(g5.trans g6).1 nm _ nml fn2,nml,by lia,by lia,hnames,r1,r40,fun r v J7 hr hD7 hb7=>?_⟩
    have g7:=g6.trans hb7
    have f7:=g7.1 rr _ nrl f5
    have h7:=h5.keepT (Bg.keepT g5.2 g7) (n_d o5)
    have lz:=h7.length
    rw [List.length_map] at lz
    have kk:=KeepT.lst f7 (.lst (zs++[v]))
    refine ⟨rr,_,_,rfl,rfl,f7,y_j (by lia),?_⟩
    refine ⟨_,rs++[r],zs++[v],rfl,(g5.trans g7).set hrr nrl _,z_c,?_,by rw [List.length_append,l5];rfl,fun t ht=>?_⟩
    ·rw [List.map_append]
     exact (h7.keepT kk (n_d o5)).append (.cons (hD7.keepT kk (n_c hr.1)) .nil)
    ·rcases List.mem_append.mp ht with h | h
     ·exact o5 t h
     ·rw [List.mem_singleton.mp h];exact hr
   refine ⟨_,rfl,.inl ⟨rfl,_,SqL.of f5⟩,_,rfl,_,rfl,?_⟩
   refine ⟨_,rfl,_,rfl,_,_,rfl,rfl,rfl,_,rfl,?_⟩
   refine ite2 (fun c=>?_) (fun c=>?_)
   ·refine ⟨_,rfl,l,3,rfl,g5.2,by decide,by decide,fun d2 J6 d20 d21 hb6=>?_⟩
    refine ⟨rfl,.inr ⟨_,rfl,_,_,rfl,rfl,.inl ⟨by decide,by decide⟩,_,_,rfl,rfl,?_⟩⟩
    exact key _ J6 hb6 (by split<;>lia) (by split<;>lia)
   ·refine .inr ⟨_,rfl,_,_,rfl,rfl,.inl ⟨by decide,by decide⟩,_,_,rfl,rfl,?_⟩
    exact key _ J5 (Bg.refl g5.2) (by decide) (by decide)
  rintro σ J5 ⟨x8,rs,zs,rfl,g5,f5,h5,l5,o5⟩
  have g25:=g2.trans g5
  have fp5:=g25.1 pp _ npl fp
  have fn5:=g25.1 nm _ nml fn
  have fd5:=g5.1 dd _ ndl fd2
  refine ⟨_,rfl,.inl ⟨rfl,_,SqL.of fp5⟩,_,rfl,_,rfl,l,11,rfl,g5.2,by decide,by decide,fun e J6 e0 e1 hb6=>?_⟩
  obtain ⟨k5,rfl⟩:=Int.eq_ofNat_of_zero_le e0
  have hk5:k5<names.length:=by lia
  refine ⟨nm,_,_,_,rfl,rfl,SqL.of (hb6.1 nm _ nml fn5),(show atI _ ((k5:Nat):Int)=some (.str names[k5]) from z_t (by rw [List.getElem?_map,List.getElem?_eq_getElem hk5];rfl)),?_⟩
  refine ⟨_,rfl,dd,_,_,_,rfl,rfl,SqL.of (hb6.1 dd _ ndl fd5),rfl,_,rfl,dd,_,_,_,rfl,rfl,SqL.of (hb6.1 dd _ ndl fd5),rfl,_,rfl,?_⟩
  have f6:=hb6.1 rr _ nrl f5
  refine ⟨rr,_,rfl,.inl ⟨SqL.of f6,fun pt hpt=>⟨zl4,fun pu hpu=>?_⟩⟩⟩
  have s8:=(z_e hpt (.tup zs)).trans (z_e hpu (.tup [.str names[k5],y1,y2,.ref pt]))
  have fu:=z_c (H:=upd J6 pt (.tup zs)) (a:=pu) (o:=.tup [.str names[k5],y1,y2,.ref pt])
  have ft:=z_e hpu (.tup [.str names[k5],y1,y2,.ref pt]) _ _ (z_c (H:=J6) (a:=pt) (o:=.tup zs))
  generalize upd (upd J6 pt (.tup zs)) pu (.tup [.str names[k5],y1,y2,.ref pt])=J8 at s8 fu ft ⊢
  have kA:=(Bg.keepT g5.2 hb6).trans (KeepT.same s8)
  have kB:=(Bg.keepT g2.2 g5).trans kA
  have kC:=(Bg.keepT bJ.2 g2).trans kB
  have nd1:∀ q:List (Str×Nat),noL (drD q)=true:=fun q=>by
   have:=v_s q
   simp [drD,noL,this]
  have hok:∀ p∈ps,p.Ok:=fun p hp=>(hG p hp).ok
  have hP8:=hD.keepT kC (m_q hok)
  have lx:=hP8.length
  rw [List.length_map] at lx
  have fp8:=s8 _ _ (hb6.1 pp _ npl fp5)
  have kk:=KeepT.lst fp8 (.lst (xs++[.ref pu]))
  have g8:Bg l H J8:=(bJ.trans g25).trans (hb6.trans (hb6.2.same s8))
  have G:PtG ⟨names[k5],Q1,Q2,rs⟩:=⟨⟨hnames _ (List.getElem_mem hk5),(oQ Q1 (by simp)).1,(oQ Q2 (by simp)).1,by show rs.length<=20;lia,(oQ Q1 (by simp)).2,(oQ Q2 (by simp)).2,fun r hr=>(o5 r hr).1⟩,by show rs.length<=5;lia,fun r hr=>(o5 r hr).2⟩
  have h8:Dat J8 (PPt.dat ⟨names[k5],Q1,Q2,rs⟩) (.ref pu):=Dat.tup fu (.cons (Dat.str _) (.cons (hy1.keepT kB (nd1 Q1)) (.cons (hy2.keepT kB (nd1 Q2)) (.cons (Dat.tup ft (h5.keepT kA (n_d o5))) .nil))))
  refine ⟨pp,_,_,rfl,rfl,fp8,y_j (by lia),?_⟩
  refine ⟨_,_,_,_,_,_,ps++[⟨names[k5],Q1,Q2,rs⟩],xs++[.ref pu],rfl,g8.set pp0 npl _,by rw [y_a nnp];exact s8 _ _ (hb6.1 nm _ nml fn5),z_c,?_,by rw [List.length_append,hl];rfl,fun t ht=>?_⟩
  ·rw [List.map_append]
   exact (hP8.keepT kk (m_q hok)).append (.cons (h8.keepT kk (s_o G.ok)) .nil)
  ·rcases List.mem_append.mp ht with h | h
   ·exact hG t h
   ·rw [List.mem_singleton.mp h];exact G
 rintro σ J ⟨x3,x4,x5,x6,x7,x8,ps,xs,rfl,bJ,fn,fp,hD,hl,hG⟩
 exact ⟨_,rfl,q pp ps xs J pp0 bJ fp hD (by lia) (by lia) hG⟩
theorem j_x(T:Tx w K mg A)(n:Nat)(G_L_said:FnOk P w K mg base CX0 (n+2) A.a_L_said A.d_L_said ["_law_saying"] (p_i n)):FnOk P w K mg base CX0 (n+3) A.a_L_said A.d_L_said ["_law_saying"] (p_i (n+1)):=by
 refine T.F_L_said.ok sc_L_said (fun vs H Q E h=>?_) (fun cdv A' outer s H vs Q E hr h=>?_)
 ·obtain ⟨d,v,rfl,hpc,h40,hD,q⟩:=h
  rfl
 obtain ⟨d,v,rfl,hpc,h40,hD,q⟩:=h
 refine ⟨_,(z_d (y_d (z_o y_q (z_j z_n (pv 0) z_f (fun _ _=>rfl)) z_k (nomark _)) (z_g (z_l (z_j z_n (pv 0) z_f (fun _ _=>rfl)))) z_q)
  (z_d (y_d (z_o y_q (z_j z_n (pv 0) z_f (fun _ _=>rfl)) z_k (nomark _)) (z_g (z_l (t_g (.cons (w_v (z_j z_n (pv 0) z_f (fun _ _=>rfl))) (.cons z_k (.cons (w_v (z_j z_n (pv 0) z_f (fun _ _=>rfl))) .nil)))))) z_q)
  (z_d (z_p (i:=1) sc_L_said.nd rfl (Or.inl rfl) (z_j z_n (pv 0) z_f (fun _ _=>rfl)))
  (z_d (x_j PassesOwn.never rfl (w_b (y_s u_e (pv 0) (y_p z_f) w_d)) (y_g (i:=2) sc_L_said.nd rfl (Or.inl rfl))
    (z_g (y_d (y_c (z_i (z_x (T := "int")) rfl T.isinstance PyProof.Rows.boot_isinstance (z_a (pv 2) (z_a (y_r (v:=.ty "int") rfl T.int PyProof.Rows.boot_int rfl) z_b))) (fun _=>rfl)) (z_g (z_p (i:=1) sc_L_said.nd rfl (Or.inl rfl) (z_u y_i (z_u y_i (pv 1) z_k) (z_y y_t rfl T.str PyProof.Rows.boot_str (z_a (pv 2) z_b))))) (z_g (y_d (y_c (z_i (z_x (T := "str")) rfl T.isinstance PyProof.Rows.boot_isinstance (z_a (z_j z_n (pv 2) z_f (fun _ _=>rfl)) (z_a (y_r (v:=.ty "str") rfl T.str PyProof.Rows.boot_str rfl) z_b))) (fun _=>rfl)) (z_g (z_p (i:=1) sc_L_said.nd rfl (Or.inl rfl) (z_u y_i (z_u y_i (pv 1) z_k) (z_h G_L_said (hr.mono (by first | decide | lia)) rfl T.M_L_said T.F_L_said.kp T.B_L_said .nil pass0 (z_a (pv 2) z_b))))) (z_g (z_p (i:=1) sc_L_said.nd rfl (Or.inl rfl) (z_u y_i (z_u y_i (pv 1) (t_g (.cons z_k (.cons (w_v (z_i z_w rfl T.len PySem.boot_len (z_a (pv 2) z_b))) (.cons z_k .nil))))) (w_t PySem.F.plainAttrs_str PySem.F.slot_str_join PySem.F.type_str_join q_p z_k (z_a (y_o [] (fun _ _ h=>h) rfl (w_b (pv 2)) (fun _ _ _ _=>y_m) (fun _ _ _ _=>(z_y y_t rfl T.str PyProof.Rows.boot_str (z_a (pv 0) z_b))) rfl (show ∀ j∈([]:List Nat),j<3 by decide) (show (["_law_number"]:List Str).Nodup by decide +kernel)) z_b))))))))))
  (z_g (z_l (pv 1))))))),?_⟩
 have hgw:=r_n hpc
 have hlen:=x_z hpc
 have hv:=u_d hpc
 obtain ⟨z,r,rfl,hz,hl,hre,hs⟩:=w_r hpc
 obtain ⟨p,xs,rfl,hp,hx⟩:=hD.tupI
 obtain ⟨x0,r0,rfl,h0,hy0⟩:=hx.consI
 clear hx
 cases (show x0 = .str z by unfold Dat at h0;exact h0)
 refine ⟨_,rfl,p,_,_,_,rfl,rfl,SqT.of hp,(show atI _ ((0:Nat):Int)=_ from z_t rfl),rfl,_,rfl,?_⟩
 by_cases c1:z = "wire"
 ·subst c1
  obtain ⟨x,rfl,okx⟩:=t_p hl hre
  obtain ⟨x1,r1,rfl,h1,hy1⟩:=hy0.consI
  cases hy1.nilI
  cases (show x1 = .str x by unfold Dat at h1;exact h1)
  have:=q H (Same.refl H)
  rw [r_o,x_d] at this
  exact y_b (decide_eq_true rfl) ⟨_,rfl,p,_,_,_,rfl,rfl,SqT.of hp,rfl,this⟩
 refine z_s (decide_eq_false (fun h=>c1 (by injection h))) ?_
 refine ⟨_,rfl,p,_,_,_,rfl,rfl,SqT.of hp,(show atI _ ((0:Nat):Int)=_ from z_t rfl),rfl,_,rfl,?_⟩
 by_cases c2:z = "number"
 ·subst c2
  obtain ⟨a,b,rfl,b1,b8,ha⟩:=s_r hl hre
  obtain ⟨x1,r1,rfl,h1,hy1⟩:=hy0.consI
  obtain ⟨x2,r2,rfl,h2,hy2⟩:=hy1.consI
  cases hy2.nilI
  cases h1.intI
  cases h2.intI
  have na:=w_i (n:=a) (by lia)
  have nb:=w_i (n:=b) (by lia)
  have:=q H (Same.refl H)
  rw [s_s,x_d] at this
  have e0:Str.empty++nw a=nw a:=w_u (by show ((#[]:Array Nat)++(nw a).cps).toList=_;simp)
  refine y_b (decide_eq_true rfl) ⟨_,rfl,p,_,_,_,rfl,rfl,SqT.of hp,rfl,.inr ⟨_,rfl,x_f ha,nw a,rfl,small (by rw [e0];lia),_,rfl,small (by rw [e0,PySem.Str.length_append];show (nw a).length+1<=_;lia),_,rfl,p,_,_,_,rfl,rfl,SqT.of hp,rfl,.inr ⟨_,rfl,x_f (by lia),nw b,rfl,small (by rw [e0,PySem.Str.length_append,PySem.Str.length_append];show (nw a).length+1+(nw b).length<=_;lia),?_⟩⟩⟩
  rw [e0]
  exact this
 refine z_s (decide_eq_false (fun h=>c2 (by injection h))) ?_
 obtain ⟨eS,hit⟩:=i_n hpc c1 c2
 have lr:=hy0.length
 refine ⟨_,rfl,p,_,_,_,rfl,rfl,SqT.of hp,(show atI _ ((0:Nat):Int)=_ from z_t rfl),?_⟩
 dsimp only [gName]
 have hrow:∀ i,(rowT (z::(r.take i).flatMap (itemW n))).length<=16800:=fun i=>by
  have e:r.flatMap (itemW n)=(r.take i).flatMap (itemW n)++(r.drop i).flatMap (itemW n):=by rw [<-List.flatMap_append,List.take_append_drop]
  refine w_g (fun w hw=>hgw w ?_) ?_
  ·rw [eS,e,<-List.cons_append]
   exact List.mem_append_left _ hw
  ·rw [eS,e,<-List.cons_append,List.length_append] at hlen
   lia
 have h40':∀ x∈r,0<pcs n x->(pcs n x<=40):=fun x hx h0=>by
  by_cases hd:x∈r.drop (formK z-1)
  ·have h1:=t_c (List.mem_map_of_mem (f:=pcs n) hd)
   have e:subD (.tuple (.str z::r))=r.drop (formK z-1):=rfl
   rw [e] at hv
   lia
  ·exact absurd hd (hd_sub hz c1 c2 hl hre hx h0)
 refine ⟨_,rfl,_,rfl,p,_,rfl,hp,fun pt J1 s1 ft=>?_⟩
 have ec:cutV (V.str z::r0) (some 1) none=r0:=by
  rw [show (some (1:Int))=some (((1:Nat)):Int) from rfl,s_e (by rw [List.length_cons];lia)]
  rfl
 rw [ec] at ft
 refine ⟨pt,rfl,⟨_,SqT.of ft⟩,v_m (xs:=r0) (fun i σ J=>∃ x2:Option V,σ=[some (.ref p),some (.str (rowT (z::(r.take i).flatMap (itemW n)))),x2]/\Same H J/\J pt=some (.tup r0)) ⟨_,by rw [List.take_zero,List.flatMap_nil,x_d];rfl,s1,ft⟩ ?_ ?_ ?_⟩
 ·rintro i σ J _ ⟨_,_,_,h⟩
  exact SqT.of h
 ·rintro i x σ J hxi ⟨x2,rfl,sJ,ftJ⟩
  obtain ⟨di,hdi,hdv⟩:=hy0.get hxi
  have hm:=List.mem_of_getElem? hdi
  have hk:=hit di hm
  have eN:rowT (z::(r.take (i+1)).flatMap (itemW n))=rowT (z::(r.take i).flatMap (itemW n)) ++ " " ++ rowT (itemW n di):=by
   rw [y_f hdi,List.flatMap_append,<-List.cons_append,show [di].flatMap (itemW n)=itemW n di by simp]
   exact w_x (by simp) (itemW_ne hk)
  have b1:=hrow i
  have b2:=hrow (i+1)
  rw [eN,PySem.Str.length_append] at b2
  rcases hk with ⟨k,rfl,hk⟩ | hk | ⟨ns,rfl,l1,l16,hns⟩
  ·cases hdv.intI
   have e1:itemW n (.int (k:Int))=[nw k]:=by show [nw (k:Int).toNat]=_;rw [Int.toNat_natCast]
   rw [e1,x_d] at eN b2
   refine ⟨_,rfl,_,_,true,rfl,TyOf.int _,rfl,_,rfl,y_b rfl ⟨_,rfl,_,_,rfl,rfl,small (by rw [PySem.Str.length_append] at b2;lia),_,rfl,_,rfl,x_f hk,_,_,rfl,rfl,small (Nat.le_trans b2 (by decide)),?_⟩⟩
   exact ⟨_,by rw [eN];rfl,sJ,ftJ⟩
  ·have e1:=t_i hk
   rw [e1] at eN b2
   have hdJ:=hdv.same sJ
   obtain ⟨pd,ys,rfl,hpd,c⟩:∃ pd ys,x = .ref pd/\J pd=some (.tup ys)/\∃ u yt,ys = .str u::yt:=by
    cases n with
    | zero=>exact absurd hk (Nat.lt_irrefl 0)
    | succ n =>
     obtain ⟨z',r',rfl,_⟩:=w_r hk
     obtain ⟨pd,ys,rfl,hpd,hyy⟩:=hdJ.tupI
     obtain ⟨y0,yt,rfl,g0,_⟩:=hyy.consI
     exact ⟨pd,_,rfl,hpd,z',yt,by rw [show y0 = .str z' by unfold Dat at g0;exact g0]⟩
   obtain ⟨u,yt,rfl⟩:=c
   refine ⟨_,rfl,_,_,false,rfl,TyOf.tup hpd,rfl,_,rfl,z_s rfl ?_⟩
   refine ⟨_,rfl,pd,_,_,_,rfl,rfl,SqT.of hpd,(show atI _ ((0:Nat):Int)=_ from z_t rfl),_,_,true,rfl,TyOf.str _,rfl,_,rfl,y_b rfl ?_⟩
   refine ⟨_,rfl,_,_,rfl,rfl,small (by rw [PySem.Str.length_append] at b2;lia),_,rfl,di,_,rfl,hk,h40' di hm hk,hdJ,fun J' s'=>⟨_,_,rfl,rfl,small (Nat.le_trans b2 (by decide)),?_⟩⟩
   exact ⟨_,by rw [eN];rfl,sJ.trans s',s' _ _ ftJ⟩
  ·obtain ⟨pd,ys,rfl,hpd,hyy⟩:=(hdv.same sJ).tupI
   cases datsN hyy
   obtain ⟨k0,nt,rfl⟩:∃ k0 nt,ns=k0::nt:=by
    match ns,l1 with
    | k0::nt,_=>exact ⟨k0,nt,rfl⟩
   have e1:itemW n (.tuple ((k0::nt).map fun k:Nat=>PyData.int (k:Int)))=[nw (k0::nt).length]++(k0::nt).map nw:=by
    show nw ((k0::nt).map fun k:Nat=>PyData.int (k:Int)).length::numsW ((k0::nt).map fun k:Nat=>PyData.int (k:Int))=_
    rw [t_k,List.length_map]
    rfl
   rw [e1,w_x (by simp) (by simp),x_d] at eN b2
   have nl:=w_i (n:=(k0::nt).length) (by lia)
   have lj:(rowT ((k0::nt).map nw)).length<=16800:=w_g (m_l hns) (by rw [List.length_map];lia)
   refine ⟨_,rfl,_,_,false,rfl,TyOf.tup hpd,rfl,_,rfl,z_s rfl ?_⟩
   refine ⟨_,rfl,pd,_,_,_,rfl,rfl,SqT.of hpd,(show atI _ ((0:Nat):Int)=_ from z_t rfl),_,_,false,rfl,TyOf.int _,rfl,_,rfl,z_s rfl ?_⟩
   have eb:Str.empty ++ " " ++ nw (k0::nt).length ++ " " = " " ++ nw (k0::nt).length ++ " " := w_u (by
    show (((#[]:Array Nat)++(" " : Str).cps++(nw (k0::nt).length).cps)++(" " : Str).cps).toList=((" " : Str).cps++(nw (k0::nt).length).cps++(" " : Str).cps).toList
    simp)
   have lb:(Str.empty ++ " " ++ nw (k0::nt).length ++ " ").length<=20:=by
    rw [eb,PySem.Str.length_append,PySem.Str.length_append]
    show 1+(nw (k0::nt).length).length+1<=20
    lia
   refine ⟨_,rfl,_,rfl,(by decide),_,rfl,_,_,rfl,.inr ⟨_,SqT.of hpd,rfl⟩,.inr ⟨_,rfl,x_f (by rw [u_m];lia),nw (nV (k0::nt)).length,rfl,?_,_,rfl,?_,_,_,rfl,rfl,?_,?_⟩⟩
   ·rw [u_m]
    rw [PySem.Str.length_append] at lb
    exact small (by lia)
   ·rw [u_m]
    exact small (by lia)
   ·rw [u_m]
    exact small (by lia)
   rw [u_m]
   refine ⟨rfl,_,rfl,pd,rfl,⟨_,SqT.of hpd⟩,s_j (xs:=nV (k0::nt)) (fun v=>match v with | .int i=>.str (Str.ofString (toString i)) | v=>v) (SqT.of hpd) (by rw [u_m];lia) (fun x hx N hN=>?_) fun y hy=>?_⟩
   ·obtain ⟨v,hv,rfl⟩:=List.mem_map.mp hx
    exact ⟨_,rfl,_,rfl,x_f (hns v hv),hN⟩
   have e:(nV (k0::nt)).map (fun v=>match v with | .int i=>V.str (Str.ofString (toString i)) | v=>v)=((k0::nt).map nw).map V.str:=by
    unfold nV
    rw [List.map_map,List.map_map]
    rfl
   rw [e]
   have ej:Txt.join (" " : Str) ((k0::nt).map nw)=rowT ((k0::nt).map nw):=by
    rw [n_t]
    exact StrLaws.glued_eq_join _ _
   refine ⟨_,y,(k0::nt).map nw,rfl,rfl,SqL.of z_c,?_,_,_,rfl,rfl,?_,?_⟩
   ·have h1:=StrLaws.sumLen_le (B:=20) ((k0::nt).map nw) fun w hw=>(m_l hns w hw).2.2.2
    rw [List.length_map] at h1 ⊢
    show _+(k0::nt).length*1<=_
    lia
   ·rw [ej]
    exact small (by rw [PySem.Str.length_append];lia)
   refine ⟨some (.ref pd),?_,sJ.trans (z_e hy _),z_e hy _ _ _ ftJ⟩
   rw [eN,ej,eb]
   have ee:∀ a b c:Str,a++(" " ++ b ++ " ")++c=a ++ " " ++ (b ++ " " ++ c):=fun a b c=>w_u (by
    show ((a.cps++((" " : Str).cps++b.cps++(" " : Str).cps))++c.cps).toList=((a.cps++(" " : Str).cps)++(b.cps++(" " : Str).cps++c.cps)).toList
    simp)
   rw [<-ee]
   rfl
 rintro σ J ⟨x2,rfl,sJ,_⟩
 rw [<-lr,List.take_length,<-eS]
 exact ⟨_,rfl,q J sJ⟩
theorem q_q(T:Tx w K mg A)(G_L_said:FnOk P w K mg base CX0 9 A.a_L_said A.d_L_said ["_law_saying"] (p_i 6)):FnOk P w K mg base CX0 10 A.a_L_row_text A.d_L_row_text ["_law_row_here"] l_i:=by
 refine T.F_L_row_text.ok sc_L_row_text (fun vs H Q E h=>?_) (fun cdv A' outer s H vs Q E hr h=>?_)
 ·obtain ⟨r,v,rfl,ok,h800,hD,q⟩:=h
  rfl
 obtain ⟨r,v,rfl,ok,h800,hD,q⟩:=h
 refine ⟨_,(z_d (y_d (z_o y_q (z_j z_n (pv 0) z_f (fun _ _=>rfl)) z_k (nomark _)) (z_g (z_l (z_u y_i (t_g (.cons z_k (.cons (w_v (z_j z_n (pv 0) z_f (fun _ _=>rfl))) (.cons z_k (.cons (w_v (z_j z_n (pv 0) z_f (fun _ _=>rfl))) (.cons z_k .nil)))))) (z_h G_L_said (hr.mono (by first | decide | lia)) rfl T.M_L_said T.F_L_said.kp T.B_L_said .nil pass0 (z_a (z_j z_n (pv 0) z_f (fun _ _=>rfl)) z_b))))) z_q)
  (z_d (y_d (z_o y_q (z_j z_n (pv 0) z_f (fun _ _=>rfl)) z_k (nomark _)) (z_g (z_l (z_u y_i (t_g (.cons z_k (.cons (w_v (z_j z_n (pv 0) z_f (fun _ _=>rfl))) (.cons z_k (.cons (w_v (z_j z_n (pv 0) z_f (fun _ _=>rfl))) (.cons z_k (.cons (w_v (z_j z_n (pv 0) z_f (fun _ _=>rfl))) (.cons z_k .nil)))))))) (z_h G_L_said (hr.mono (by first | decide | lia)) rfl T.M_L_said T.F_L_said.kp T.B_L_said .nil pass0 (z_a (z_j z_n (pv 0) z_f (fun _ _=>rfl)) z_b))))) z_q)
  (z_d (z_p (i:=1) sc_L_row_text.nd rfl (Or.inl rfl) (t_g (.cons z_k (.cons (w_v (z_j z_n (pv 0) z_f (fun _ _=>rfl))) (.cons z_k (.cons (w_v (z_j z_n (pv 0) z_f (fun _ _=>rfl))) .nil))))))
  (z_d (y_d (z_o y_q (z_j z_n (pv 0) z_f (fun _ _=>rfl)) z_k (nomark _)) (z_g (z_p (i:=1) sc_L_row_text.nd rfl (Or.inl rfl) (t_g (.cons z_k (.cons (w_v (z_j z_n (pv 0) z_f (fun _ _=>rfl))) (.cons z_k (.cons (w_v (z_j z_n (pv 0) z_f (fun _ _=>rfl))) (.cons z_k (.cons (w_v (z_j z_n (pv 0) z_f (fun _ _=>rfl))) .nil))))))))) z_q)
  (z_d (x_j PassesOwn.never rfl (w_b (z_j z_n (pv 0) (o_i s_n z_f) (fun _ _=>rfl))) (y_g (i:=2) sc_L_row_text.nd rfl (Or.inl rfl))
    (z_g (z_p (i:=1) sc_L_row_text.nd rfl (Or.inl rfl) (z_u y_i (z_u y_i (pv 1) z_k) (pv 2)))))
  (z_d (z_p (i:=1) sc_L_row_text.nd rfl (Or.inl rfl) (z_u y_i (pv 1) z_k))
  (z_d (x_j PassesOwn.never rfl (w_b (z_j z_n (pv 0) (o_i s_n z_f) (fun _ _=>rfl))) (y_g (i:=3) sc_L_row_text.nd rfl (Or.inl rfl))
    (z_g (z_p (i:=1) sc_L_row_text.nd rfl (Or.inl rfl) (z_u y_i (z_u y_i (pv 1) z_k) (z_h G_L_said (hr.mono (by first | decide | lia)) rfl T.M_L_said T.F_L_said.kp T.B_L_said .nil pass0 (z_a (pv 3) z_b))))))
  (z_g (z_l (pv 1)))))))))),?_⟩
 have l0:Str.empty.length=0:=rfl
 have lW:("wire " : Str).length=5:=rfl
 have lB:("box " : Str).length=4:=rfl
 have lU:("use " : Str).length=4:=rfl
 have lT:("times " : Str).length=6:=rfl
 have lS:(" " : Str).length=1:=rfl
 have lE:(" = " : Str).length=3:=rfl
 have lQ:(" =" : Str).length=2:=rfl
 cases r with
 | wire n w s =>
  obtain ⟨k1,k2,k3,k4⟩:=ok
  obtain ⟨pa,xs,rfl,hp,hx⟩:=hD.tupI
  obtain ⟨x0,r0,rfl,h0,hx⟩:=hx.consI
  obtain ⟨x1,r1,rfl,h1,hx⟩:=hx.consI
  obtain ⟨x2,r2,rfl,h2,hx⟩:=hx.consI
  obtain ⟨x3,r3,rfl,h3,hx⟩:=hx.consI
  cases hx.nilI
  cases (show x0 = .str "wire" by unfold Dat at h0;exact h0)
  cases (show x1 = .str n by unfold Dat at h1;exact h1)
  cases h2.intI
  have n8:=k1.sz
  have w9:(Str.ofString (toString (w:Int))).length<=9:=w_i (n:=w) (by lia)
  have sl:(rowT (sayW 6 s)).length<=16800:=w_g (r_n k4.pcs.1) (by have:=x_z k4.pcs.1;have:=k4.pcs.2;lia)
  refine ⟨_,rfl,pa,_,_,_,rfl,rfl,SqT.of hp,rfl,rfl,_,rfl,y_b (by decide) ?_⟩
  refine ⟨_,rfl,small (by simp only [PySem.Str.length_append];lia),_,rfl,pa,_,_,_,rfl,rfl,SqT.of hp,rfl,.inl ⟨_,rfl,small (by lia),_,rfl,small (by simp only [PySem.Str.length_append];lia),_,rfl,small (by simp only [PySem.Str.length_append];lia),_,rfl,pa,_,_,_,rfl,rfl,SqT.of hp,rfl,.inr ⟨_,rfl,x_f (by lia),_,rfl,small (by simp only [PySem.Str.length_append];lia),_,rfl,small (by simp only [PySem.Str.length_append];lia),_,rfl,pa,_,_,_,rfl,rfl,SqT.of hp,rfl,s,_,rfl,k4.pcs.1,k4.pcs.2,h3,fun H1 s1=>⟨_,_,rfl,rfl,small (by simp only [PySem.Str.length_append];lia),?_⟩⟩⟩⟩
  have:=q H1 s1
  obtain ⟨s0,st,e⟩:=List.exists_cons_of_ne_nil (show sayW 6 s≠[] from fun e=>by have:=t_a k4.pcs.1;rw [e] at this;exact absurd this (by decide))
  have e2:rowT (PRw.wire n w s).ws=Str.empty ++ "wire " ++ n ++ " " ++ nw w ++ " = " ++ rowT (sayW 6 s):=by
   show rowT (([("wire" : Str),n,nw w, "="]:List Str)++sayW 6 s)=_
   rw [e]
   show rowT ("wire" :: n::nw w :: "=" :: s0::st)=_
   rw [y_n,y_n,y_n,y_n]
   refine w_u ?_
   show (((("wire" : Str).cps++(" " : Str).cps)++((n.cps++(" " : Str).cps)++(((nw w).cps++(" " : Str).cps)++((("=" : Str).cps++(" " : Str).cps)++(rowT (s0::st)).cps))))).toList=((((((#[]:Array Nat)++("wire " : Str).cps)++n.cps)++(" " : Str).cps)++(nw w).cps)++(" = " : Str).cps++(rowT (s0::st)).cps).toList
   rw [show ("wire " : Str).cps=("wire" : Str).cps++(" " : Str).cps from by decide,show (" = " : Str).cps=(" " : Str).cps++(("=" : Str).cps++(" " : Str).cps) from by decide]
   simp
  rw [e2] at this
  exact this
 | box n w x s =>
  obtain ⟨k1,k2,k3,kx,k4⟩:=ok
  have x256:=pow8 kx k3
  obtain ⟨pa,xs,rfl,hp,hx⟩:=hD.tupI
  obtain ⟨x0,r0,rfl,h0,hx⟩:=hx.consI
  obtain ⟨x1,r1,rfl,h1,hx⟩:=hx.consI
  obtain ⟨x2,r2,rfl,h2,hx⟩:=hx.consI
  obtain ⟨x4,r4,rfl,h4,hx⟩:=hx.consI
  obtain ⟨x3,r3,rfl,h3,hx⟩:=hx.consI
  cases hx.nilI
  cases (show x0 = .str "box" by unfold Dat at h0;exact h0)
  cases (show x1 = .str n by unfold Dat at h1;exact h1)
  cases h2.intI
  cases h4.intI
  have x9:(Str.ofString (toString (x:Int))).length<=9:=w_i (n:=x) (by lia)
  have n8:=k1.sz
  have w9:(Str.ofString (toString (w:Int))).length<=9:=w_i (n:=w) (by lia)
  have sl:(rowT (sayW 6 s)).length<=16800:=w_g (r_n k4.pcs.1) (by have:=x_z k4.pcs.1;have:=k4.pcs.2;lia)
  refine ⟨_,rfl,pa,_,_,_,rfl,rfl,SqT.of hp,rfl,rfl,_,rfl,z_s (by decide) ?_⟩
  refine ⟨_,rfl,pa,_,_,_,rfl,rfl,SqT.of hp,rfl,rfl,_,rfl,y_b (by decide) ?_⟩
  refine ⟨_,rfl,small (by simp only [PySem.Str.length_append];lia),_,rfl,pa,_,_,_,rfl,rfl,SqT.of hp,rfl,.inl ⟨_,rfl,small (by lia),_,rfl,small (by simp only [PySem.Str.length_append];lia),_,rfl,small (by simp only [PySem.Str.length_append];lia),_,rfl,pa,_,_,_,rfl,rfl,SqT.of hp,rfl,.inr ⟨_,rfl,x_f (by lia),_,rfl,small (by simp only [PySem.Str.length_append];lia),_,rfl,small (by simp only [PySem.Str.length_append];lia),_,rfl,pa,_,_,_,rfl,rfl,SqT.of hp,rfl,.inr ⟨_,rfl,x_f (by lia),_,rfl,small (by simp only [PySem.Str.length_append];lia),_,rfl,small (by simp only [PySem.Str.length_append];lia),_,rfl,pa,_,_,_,rfl,rfl,SqT.of hp,rfl,s,_,rfl,k4.pcs.1,k4.pcs.2,h3,fun H1 s1=>⟨_,_,rfl,rfl,small (by simp only [PySem.Str.length_append];lia),?_⟩⟩⟩⟩⟩
  have:=q H1 s1
  obtain ⟨s0,st,e⟩:=List.exists_cons_of_ne_nil (show sayW 6 s≠[] from fun e=>by have:=t_a k4.pcs.1;rw [e] at this;exact absurd this (by decide))
  have e2:rowT (PRw.box n w x s).ws=Str.empty ++ "box " ++ n ++ " " ++ nw w ++ " " ++ nw x ++ " = " ++ rowT (sayW 6 s):=by
   show rowT (([("box" : Str),n,nw w,nw x, "="]:List Str)++sayW 6 s)=_
   rw [e]
   show rowT ("box" :: n::nw w::nw x :: "=" :: s0::st)=_
   rw [y_n,y_n,y_n,y_n,y_n]
   refine w_u ?_
   show (((("box" : Str).cps++(" " : Str).cps)++((n.cps++(" " : Str).cps)++(((nw w).cps++(" " : Str).cps)++(((nw x).cps++(" " : Str).cps)++((("=" : Str).cps++(" " : Str).cps)++(rowT (s0::st)).cps)))))).toList=((((((((#[]:Array Nat)++("box " : Str).cps)++n.cps)++(" " : Str).cps)++(nw w).cps)++(" " : Str).cps)++(nw x).cps)++(" = " : Str).cps++(rowT (s0::st)).cps).toList
   rw [show ("box " : Str).cps=("box" : Str).cps++(" " : Str).cps from by decide,show (" = " : Str).cps=(" " : Str).cps++(("=" : Str).cps++(" " : Str).cps) from by decide]
   simp
  rw [e2] at this
  exact this
 | use t p z ss ns =>
  have gw:=i_i ok
  obtain ⟨k0,n1,n2,l1,l2,hss,hns⟩:=ok
  have p8:=n1.sz
  have z8:=n2.sz
  cases t with
  | none =>
   obtain ⟨pa,xs,rfl,hp,hx⟩:=hD.tupI
   obtain ⟨x0,r0,rfl,h0,hx⟩:=hx.consI
   obtain ⟨x1,r1,rfl,h1,hx⟩:=hx.consI
   obtain ⟨x2,r2,rfl,h2,hx⟩:=hx.consI
   obtain ⟨x3,r3,rfl,h3,hx⟩:=hx.consI
   obtain ⟨x4,r4,rfl,h4,hx⟩:=hx.consI
   cases hx.nilI
   cases (show x0 = .str "part" by unfold Dat at h0;exact h0)
   cases (show x1 = .str p by unfold Dat at h1;exact h1)
   cases (show x2 = .str z by unfold Dat at h2;exact h2)
   obtain ⟨ps,ys,rfl,hps,hy⟩:=h3.tupI
   obtain ⟨pn,zs,rfl,hpn,hz⟩:=h4.tupI
   cases strsD hz
   refine ⟨_,rfl,pa,_,_,_,rfl,rfl,SqT.of hp,rfl,rfl,_,rfl,z_s (by decide) ?_⟩
   refine ⟨_,rfl,pa,_,_,_,rfl,rfl,SqT.of hp,rfl,rfl,_,rfl,z_s (by decide) ?_⟩
   refine ⟨_,rfl,small (by simp only [PySem.Str.length_append];lia),_,rfl,pa,_,_,_,rfl,rfl,SqT.of hp,rfl,.inl ⟨_,rfl,small (by lia),_,rfl,small (by simp only [PySem.Str.length_append];lia),_,rfl,small (by simp only [PySem.Str.length_append];lia),_,rfl,pa,_,_,_,rfl,rfl,SqT.of hp,rfl,.inl ⟨_,rfl,small (by lia),_,rfl,small (by simp only [PySem.Str.length_append];lia),?_⟩⟩⟩
   dsimp only [gName]
   refine ⟨_,rfl,pa,_,_,_,rfl,rfl,SqT.of hp,rfl,rfl,_,rfl,z_s (by decide) ?_⟩
   have eH:Str.empty ++ "use " ++ p ++ " " ++ z=rowT (["use",p,z]:List Str):=by
    rw [y_n,y_n,x_d]
    refine w_u ?_
    show ((((((#[]:Array Nat)++("use " : Str).cps)++p.cps)++(" " : Str).cps)++z.cps)).toList=((("use" : Str).cps++(" " : Str).cps)++((p.cps++(" " : Str).cps)++z.cps)).toList
    rw [show ("use " : Str).cps=("use" : Str).cps++(" " : Str).cps from by decide]
    simp
   dsimp only [gName]
   rw [eH]
   have hb:∀ pre:List Str,(∃ suf,pre++suf=(["use",p,z]:List Str)++ns++(["="]:List Str)++ss.flatMap (sayW 6))->(rowT pre).length<=16800:=fun pre ⟨suf,e⟩=>w_g (fun w hw=>gw w (by show w∈(["use",p,z]:List Str)++ns++(["="]:List Str)++ss.flatMap (sayW 6);rw [<-e];exact List.mem_append_left _ hw)) (by
    have h8:((["use",p,z]:List Str)++ns++(["="]:List Str)++ss.flatMap (sayW 6)).length<=800:=h800
    rw [<-e,List.length_append] at h8
    lia)
   refine ⟨_,rfl,_,rfl,pa,_,_,_,rfl,rfl,SqT.of hp,rfl,pn,rfl,⟨_,SqT.of hpn⟩,v_m (xs:=sV ns) (fun i σ J=>∃ x2:Option V,σ=[some (.ref pa),some (.str (rowT ((["use",p,z]:List Str)++ns.take i))),x2,none]/\H=J) ⟨_,by rw [List.take_zero,List.append_nil];rfl,rfl⟩ ?_ ?_ ?_⟩
   ·rintro i σ J _ ⟨_,_,rfl⟩
    exact SqT.of hpn
   ·rintro i v σ J hv ⟨x2,rfl,rfl⟩
    unfold sV at hv
    rw [List.getElem?_map] at hv
    obtain ⟨nm,hnm,rfl⟩:=Option.map_eq_some_iff.mp hv
    have eN:rowT ((["use",p,z]:List Str)++ns.take (i+1))=rowT ((["use",p,z]:List Str)++ns.take i) ++ " " ++ nm:=by
     rw [y_f hnm,<-List.append_assoc,w_x (by simp) (by simp),x_d]
    have b2:=hb ((["use",p,z]:List Str)++ns.take (i+1)) ⟨ns.drop (i+1)++(["="]:List Str)++ss.flatMap (sayW 6),k_n _ ns _ _ (i+1)⟩
    rw [eN,PySem.Str.length_append] at b2
    refine ⟨_,rfl,_,_,rfl,rfl,small (by rw [PySem.Str.length_append] at b2;lia),_,rfl,_,_,rfl,rfl,small (Nat.le_trans b2 (by decide)),?_⟩
    exact ⟨_,by rw [eN];rfl,rfl⟩
   rintro σ J ⟨x2,rfl,rfl⟩
   rw [z_z,List.take_length]
   have eQ:rowT ((["use",p,z]:List Str)++ns++(["="]:List Str))=rowT ((["use",p,z]:List Str)++ns) ++ " =" := by
    rw [w_x (by simp) (by simp),x_d,i_y]
    rfl
   have b3:=hb ((["use",p,z]:List Str)++ns++(["="]:List Str)) ⟨_,rfl⟩
   rw [eQ] at b3
   refine ⟨_,rfl,_,_,rfl,rfl,small (by rw [PySem.Str.length_append] at b3;lia),?_⟩
   dsimp only [gName]
   rw [<-eQ]
   have ly:=hy.length
   refine ⟨_,rfl,_,rfl,pa,_,_,_,rfl,rfl,SqT.of hp,rfl,ps,rfl,⟨_,SqT.of hps⟩,v_m (xs:=ys) (fun i σ J=>∃ x3:Option V,σ=[some (.ref pa),some (.str (rowT ((["use",p,z]:List Str)++ns++(["="]:List Str)++(ss.take i).flatMap (sayW 6)))),x2,x3]/\Same H J) ⟨_,by rw [List.take_zero,List.flatMap_nil,List.append_nil];rfl,Same.refl _⟩ ?_ ?_ ?_⟩
   ·rintro i σ J _ ⟨_,_,sJ⟩
    exact SqT.of (sJ _ _ hps)
   ·rintro i v σ J hv ⟨x3,rfl,sJ⟩
    obtain ⟨d,hd,hdv⟩:=hy.get hv
    have okd:=(hss d (List.mem_of_getElem? hd)).pcs
    have eN:rowT ((["use",p,z]:List Str)++ns++(["="]:List Str)++(ss.take (i+1)).flatMap (sayW 6))=rowT ((["use",p,z]:List Str)++ns++(["="]:List Str)++(ss.take i).flatMap (sayW 6)) ++ " " ++ rowT (sayW 6 d):=by
     rw [y_f hd,List.flatMap_append,<-List.append_assoc,show [d].flatMap (sayW 6)=sayW 6 d by simp]
     exact w_x (by simp) (fun e=>by have:=t_a okd.1;rw [e] at this;exact absurd this (by decide))
    have b2:=hb ((["use",p,z]:List Str)++ns++(["="]:List Str)++(ss.take (i+1)).flatMap (sayW 6)) ⟨(ss.drop (i+1)).flatMap (sayW 6),by rw [List.append_assoc,<-List.flatMap_append,List.take_append_drop]⟩
    rw [eN,PySem.Str.length_append] at b2
    refine ⟨_,rfl,_,_,rfl,rfl,small (by rw [PySem.Str.length_append] at b2;lia),_,rfl,d,v,rfl,okd.1,okd.2,hdv.same sJ,fun J' s'=>⟨_,_,rfl,rfl,small (Nat.le_trans b2 (by decide)),?_⟩⟩
    exact ⟨_,by rw [eN];rfl,sJ.trans s'⟩
   rintro σ J ⟨x3,rfl,sJ⟩
   rw [<-ly,List.take_length]
   exact ⟨_,rfl,q J sJ⟩
  | some t =>
   obtain ⟨pa,xs,rfl,hp,hx⟩:=hD.tupI
   obtain ⟨x0,r0,rfl,h0,hx⟩:=hx.consI
   obtain ⟨x9,r9,rfl,h9,hx⟩:=hx.consI
   obtain ⟨x1,r1,rfl,h1,hx⟩:=hx.consI
   obtain ⟨x2,r2,rfl,h2,hx⟩:=hx.consI
   obtain ⟨x3,r3,rfl,h3,hx⟩:=hx.consI
   obtain ⟨x4,r4,rfl,h4,hx⟩:=hx.consI
   cases hx.nilI
   cases (show x0 = .str "times" by unfold Dat at h0;exact h0)
   cases (show x1 = .str p by unfold Dat at h1;exact h1)
   cases (show x2 = .str z by unfold Dat at h2;exact h2)
   obtain ⟨ps,ys,rfl,hps,hy⟩:=h3.tupI
   obtain ⟨pn,zs,rfl,hpn,hz⟩:=h4.tupI
   cases strsD hz
   cases h9.intI
   have t8:=(k0 t rfl).2
   have t9:(Str.ofString (toString (t:Int))).length<=9:=w_i (n:=t) (by lia)
   refine ⟨_,rfl,pa,_,_,_,rfl,rfl,SqT.of hp,rfl,rfl,_,rfl,z_s (by decide) ?_⟩
   refine ⟨_,rfl,pa,_,_,_,rfl,rfl,SqT.of hp,rfl,rfl,_,rfl,z_s (by decide) ?_⟩
   refine ⟨_,rfl,small (by simp only [PySem.Str.length_append];lia),_,rfl,pa,_,_,_,rfl,rfl,SqT.of hp,rfl,.inr ⟨_,rfl,x_f (by lia),_,rfl,small (by simp only [PySem.Str.length_append];lia),_,rfl,small (by simp only [PySem.Str.length_append];lia),_,rfl,pa,_,_,_,rfl,rfl,SqT.of hp,rfl,.inl ⟨_,rfl,small (by lia),_,rfl,small (by simp only [PySem.Str.length_append];lia),?_⟩⟩⟩
   dsimp only [gName]
   refine ⟨_,rfl,pa,_,_,_,rfl,rfl,SqT.of hp,rfl,rfl,_,rfl,y_b (by decide) ?_⟩
   refine ⟨_,rfl,small (by simp only [PySem.Str.length_append];lia),_,rfl,pa,_,_,_,rfl,rfl,SqT.of hp,rfl,.inr ⟨_,rfl,x_f (by lia),_,rfl,small (by simp only [PySem.Str.length_append];lia),_,rfl,small (by simp only [PySem.Str.length_append];lia),_,rfl,pa,_,_,_,rfl,rfl,SqT.of hp,rfl,.inl ⟨_,rfl,small (by lia),_,rfl,small (by simp only [PySem.Str.length_append];lia),_,rfl,small (by simp only [PySem.Str.length_append];lia),_,rfl,pa,_,_,_,rfl,rfl,SqT.of hp,rfl,.inl ⟨_,rfl,small (by lia),_,rfl,small (by simp only [PySem.Str.length_append];lia),?_⟩⟩⟩⟩
   have eH:Str.empty ++ "times " ++ Str.ofString (toString (t:Int)) ++ " " ++ p ++ " " ++ z=rowT (["times",nw t,p,z]:List Str):=by
    rw [y_n,y_n,y_n,x_d]
    refine w_u ?_
    show ((((((((#[]:Array Nat)++("times " : Str).cps)++(nw t).cps)++(" " : Str).cps)++p.cps)++(" " : Str).cps)++z.cps)).toList=((("times" : Str).cps++(" " : Str).cps)++(((nw t).cps++(" " : Str).cps)++((p.cps++(" " : Str).cps)++z.cps))).toList
    rw [show ("times " : Str).cps=("times" : Str).cps++(" " : Str).cps from by decide]
    simp
   dsimp only [gName]
   rw [eH]
   have hb:∀ pre:List Str,(∃ suf,pre++suf=(["times",nw t,p,z]:List Str)++ns++(["="]:List Str)++ss.flatMap (sayW 6))->(rowT pre).length<=16800:=fun pre ⟨suf,e⟩=>w_g (fun w hw=>gw w (by show w∈(["times",nw t,p,z]:List Str)++ns++(["="]:List Str)++ss.flatMap (sayW 6);rw [<-e];exact List.mem_append_left _ hw)) (by
    have h8:((["times",nw t,p,z]:List Str)++ns++(["="]:List Str)++ss.flatMap (sayW 6)).length<=800:=h800
    rw [<-e,List.length_append] at h8
    lia)
   refine ⟨_,rfl,_,rfl,pa,_,_,_,rfl,rfl,SqT.of hp,rfl,pn,rfl,⟨_,SqT.of hpn⟩,v_m (xs:=sV ns) (fun i σ J=>∃ x2:Option V,σ=[some (.ref pa),some (.str (rowT ((["times",nw t,p,z]:List Str)++ns.take i))),x2,none]/\H=J) ⟨_,by rw [List.take_zero,List.append_nil];rfl,rfl⟩ ?_ ?_ ?_⟩
   ·rintro i σ J _ ⟨_,_,rfl⟩
    exact SqT.of hpn
   ·rintro i v σ J hv ⟨x2,rfl,rfl⟩
    unfold sV at hv
    rw [List.getElem?_map] at hv
    obtain ⟨nm,hnm,rfl⟩:=Option.map_eq_some_iff.mp hv
    have eN:rowT ((["times",nw t,p,z]:List Str)++ns.take (i+1))=rowT ((["times",nw t,p,z]:List Str)++ns.take i) ++ " " ++ nm:=by
     rw [y_f hnm,<-List.append_assoc,w_x (by simp) (by simp),x_d]
    have b2:=hb ((["times",nw t,p,z]:List Str)++ns.take (i+1)) ⟨ns.drop (i+1)++(["="]:List Str)++ss.flatMap (sayW 6),k_n _ ns _ _ (i+1)⟩
    rw [eN,PySem.Str.length_append] at b2
    refine ⟨_,rfl,_,_,rfl,rfl,small (by rw [PySem.Str.length_append] at b2;lia),_,rfl,_,_,rfl,rfl,small (Nat.le_trans b2 (by decide)),?_⟩
    exact ⟨_,by rw [eN];rfl,rfl⟩
   rintro σ J ⟨x2,rfl,rfl⟩
   rw [z_z,List.take_length]
   have eQ:rowT ((["times",nw t,p,z]:List Str)++ns++(["="]:List Str))=rowT ((["times",nw t,p,z]:List Str)++ns) ++ " =" := by
    rw [w_x (by simp) (by simp),x_d,i_y]
    rfl
   have b3:=hb ((["times",nw t,p,z]:List Str)++ns++(["="]:List Str)) ⟨_,rfl⟩
   rw [eQ] at b3
   refine ⟨_,rfl,_,_,rfl,rfl,small (by rw [PySem.Str.length_append] at b3;lia),?_⟩
   dsimp only [gName]
   rw [<-eQ]
   have ly:=hy.length
   refine ⟨_,rfl,_,rfl,pa,_,_,_,rfl,rfl,SqT.of hp,rfl,ps,rfl,⟨_,SqT.of hps⟩,v_m (xs:=ys) (fun i σ J=>∃ x3:Option V,σ=[some (.ref pa),some (.str (rowT ((["times",nw t,p,z]:List Str)++ns++(["="]:List Str)++(ss.take i).flatMap (sayW 6)))),x2,x3]/\Same H J) ⟨_,by rw [List.take_zero,List.flatMap_nil,List.append_nil];rfl,Same.refl _⟩ ?_ ?_ ?_⟩
   ·rintro i σ J _ ⟨_,_,sJ⟩
    exact SqT.of (sJ _ _ hps)
   ·rintro i v σ J hv ⟨x3,rfl,sJ⟩
    obtain ⟨d,hd,hdv⟩:=hy.get hv
    have okd:=(hss d (List.mem_of_getElem? hd)).pcs
    have eN:rowT ((["times",nw t,p,z]:List Str)++ns++(["="]:List Str)++(ss.take (i+1)).flatMap (sayW 6))=rowT ((["times",nw t,p,z]:List Str)++ns++(["="]:List Str)++(ss.take i).flatMap (sayW 6)) ++ " " ++ rowT (sayW 6 d):=by
     rw [y_f hd,List.flatMap_append,<-List.append_assoc,show [d].flatMap (sayW 6)=sayW 6 d by simp]
     exact w_x (by simp) (fun e=>by have:=t_a okd.1;rw [e] at this;exact absurd this (by decide))
    have b2:=hb ((["times",nw t,p,z]:List Str)++ns++(["="]:List Str)++(ss.take (i+1)).flatMap (sayW 6)) ⟨(ss.drop (i+1)).flatMap (sayW 6),by rw [List.append_assoc,<-List.flatMap_append,List.take_append_drop]⟩
    rw [eN,PySem.Str.length_append] at b2
    refine ⟨_,rfl,_,_,rfl,rfl,small (by rw [PySem.Str.length_append] at b2;lia),_,rfl,d,v,rfl,okd.1,okd.2,hdv.same sJ,fun J' s'=>⟨_,_,rfl,rfl,small (Nat.le_trans b2 (by decide)),?_⟩⟩
    exact ⟨_,by rw [eN];rfl,sJ.trans s'⟩
   rintro σ J ⟨x3,rfl,sJ⟩
   rw [<-ly,List.take_length]
   exact ⟨_,rfl,q J sJ⟩
theorem i_a(T:Tx w K mg A)(G_L_row_text:FnOk P w K mg base CX0 10 A.a_L_row_text A.d_L_row_text ["_law_row_here"] l_i):FnOk P w K mg base CX0 11 A.a_L_text A.d_L_text ["_law_plan_here"] l_b:=by
 refine T.F_L_text.ok sc_L_text (fun vs H Q E h=>?_) (fun cdv A' outer s H vs Q E hr h=>?_)
 ·obtain ⟨l,ps,xs,rfl,ok,tok,hl,hD,q⟩:=h
  rfl
 obtain ⟨l,ps,xs,rfl,ok,tok,hl,hD,q⟩:=h
 refine ⟨_,(z_d (z_p (i:=1) sc_L_text.nd rfl (Or.inl rfl) (y_u z_b))
  (z_d (x_j PassesOwn.never rfl (x_s (pv 0)) (m_p rfl (w_f (y_g (i:=2) sc_L_text.nd rfl (Or.inl rfl)) (w_f (y_g (i:=3) sc_L_text.nd rfl (Or.inl rfl)) (w_f (y_g (i:=4) sc_L_text.nd rfl (Or.inl rfl)) (w_f (y_g (i:=5) sc_L_text.nd rfl (Or.inl rfl)) q_y)))))
    (z_d (y_z (w_t PySem.F.plainAttrs_list PySem.F.slot_list_append PySem.F.type_list_append x_e (pv 1) (z_a (z_u y_i z_k (pv 2)) z_b)))
  (z_d (x_j PassesOwn.never rfl (x_s (y_u (z_a (y_k (z_a z_k (z_a (pv 3) z_b))) (z_a (y_k (z_a z_k (z_a (pv 4) z_b))) z_b)))) (m_p rfl (w_f (y_g (i:=6) sc_L_text.nd rfl (Or.inl rfl)) (w_f (y_g (i:=7) sc_L_text.nd rfl (Or.inl rfl)) q_y)))
    (z_g (x_j PassesOwn.never rfl (w_b (pv 7)) (m_p rfl (w_f (y_g (i:=8) sc_L_text.nd rfl (Or.inl rfl)) (w_f (y_g (i:=9) sc_L_text.nd rfl (Or.inl rfl)) q_y)))
    (z_g (y_z (w_t PySem.F.plainAttrs_list PySem.F.slot_list_append PySem.F.type_list_append x_e (pv 1) (z_a (t_g (.cons (w_v (pv 6)) (.cons z_k (.cons (w_v (pv 8)) (.cons z_k (.cons (w_v (pv 9)) .nil)))))) z_b)))))))
  (z_g (z_p (i:=1) sc_L_text.nd rfl (Or.inl rfl) (z_u u_h (z_u u_h (pv 1) (y_o [] (fun _ _ h=>h) rfl (w_b (pv 5)) (fun _ _ _ _=>y_m) (fun _ _ _ _=>(z_h G_L_row_text (hr.mono (by first | decide | lia)) rfl T.M_L_row_text T.F_L_row_text.kp T.B_L_row_text .nil pass0 (z_a (pv 0) z_b))) rfl (show ∀ j∈([]:List Nat),j<10 by decide) (show (["_law_row_here"]:List Str).Nodup by decide +kernel))) (y_u (z_a z_k z_b))))))))
  (z_g (z_l (w_t PySem.F.plainAttrs_str PySem.F.slot_str_join PySem.F.type_str_join q_p z_k (z_a (pv 1) z_b)))))),?_⟩
 have lx:=hD.length
 rw [List.length_map] at lx
 have lE:Str.empty.length=0:=rfl
 have lS:(" " : Str).length=1:=rfl
 have lP:("part " : Str).length=5:=rfl
 refine ⟨zl0,fun pr0 hpr0=>?_⟩
 dsimp only [gName]
 refine ⟨_,rfl,l,rfl,⟨_,SqL.of (z_e hpr0 _ _ _ hl)⟩,u_x (xs:=xs) (fun i σ J=>∃ (pr:Addr) (x2 x3 x4 x5 x6 x7 x8 x9:Option V),σ=[some (.ref l),some (.ref pr),x2,x3,x4,x5,x6,x7,x8,x9]/\H pr=none/\Same H J/\J pr=some (.lst (rwV (plnW (ps.take i))))) ⟨_,_,_,_,_,_,_,_,_,rfl,hpr0,z_e hpr0 _,z_c⟩ ?_ ?_ ?_⟩
 ·rintro i σ J _ ⟨_,_,_,_,_,_,_,_,_,_,_,sJ,_⟩
  exact SqL.of (sJ _ _ hl)
 ·rintro i v σ J hv ⟨pr,x2,x3,x4,x5,x6,x7,x8,x9,rfl,hpr,sJ,fpr⟩
  obtain ⟨d,hd,hdv⟩:=hD.get hv
  rw [List.getElem?_map] at hd
  obtain ⟨P,hP,rfl⟩:=Option.map_eq_some_iff.mp hd
  have okP:=ok P (List.mem_of_getElem? hP)
  have et:plnW (ps.take (i+1))=plnW (ps.take i)++P.ws:=by
   unfold plnW
   rw [y_f hP,List.flatMap_append]
   simp
  have hle:(plnW (ps.take (i+1))).length<=200:=by
   have h1:=tok.many
   have:plnW ps=plnW (ps.take (i+1))++plnW (ps.drop (i+1)):=by unfold plnW;rw [<-List.flatMap_append,List.take_append_drop]
   rw [this,List.length_append] at h1
   lia
  rw [et,List.length_append] at hle
  have hw8:∀ r∈P.rows,r.ws.length<=800:=fun r hr=>tok.len _ (by
   unfold plnW PPt.ws
   exact List.mem_flatMap.mpr ⟨P,List.mem_of_getElem? hP,by simp only [List.mem_append,List.mem_map];exact .inl (.inr ⟨r,hr,rfl⟩)⟩)
  have lw:P.ws.length=1+P.ins.length+P.outs.length+P.rows.length+1:=by
   unfold PPt.ws
   simp only [List.length_append,List.length_map]
   rfl
  obtain ⟨pa,zs,rfl,hp,hx⟩:=hdv.tupI
  obtain ⟨x1,r1,rfl,h1,hx⟩:=hx.consI
  obtain ⟨x2',r2,rfl,h2,hx⟩:=hx.consI
  obtain ⟨x3',r3,rfl,h3,hx⟩:=hx.consI
  obtain ⟨x4',r4,rfl,h4,hx⟩:=hx.consI
  cases hx.nilI
  cases (show x1 = .str P.name by unfold Dat at h1;exact h1)
  obtain ⟨p2,ys,rfl,hp2,hy⟩:=h2.tupI
  obtain ⟨p3,zs,rfl,hp3,hz⟩:=h3.tupI
  obtain ⟨p4,us,rfl,hp4,hu⟩:=h4.tupI
  have ly:=hy.length
  have lz:=hz.length
  have lu:=hu.length
  rw [List.length_map] at ly lz lu
  have n8:=okP.name.sz
  generalize hR:plnW (ps.take i)=R at hle fpr et
  refine ⟨pa,_,rfl,SqT.of (sJ _ _ hp),rfl,_,_,rfl,_,_,rfl,_,_,rfl,_,_,rfl,rfl,?_⟩
  refine ⟨_,rfl,.inl ⟨rfl,_,SqL.of fpr⟩,_,rfl,_,_,rfl,rfl,small (by lia),pr,_,_,rfl,rfl,fpr,y_j (by rw [t_h];lia),?_⟩
  have s1:=x_y sJ hpr (.lst (rwV (R++([["part",P.name]]:List (List Str)))))
  have f1:=z_c (H:=J) (a:=pr) (o:=.lst (rwV (R++([["part",P.name]]:List (List Str)))))
  rw [part_eq,show rwV R++[V.str (rowT ["part",P.name])]=rwV (R++([["part",P.name]]:List (List Str))) by rw [r_j];rfl]
  generalize upd J pr (.lst (rwV (R++([["part",P.name]]:List (List Str)))))=J1 at s1 f1 ⊢
  generalize hR1:R++([["part",P.name]]:List (List Str))=R1 at f1
  have lR1:R1.length=R.length+1:=by rw [<-hR1,List.length_append];rfl
  dsimp only [gName]
  refine ⟨_,rfl,zl2,fun pi hpi=>?_⟩
  refine ⟨_,rfl,zl2,fun po hpo=>?_⟩
  refine ⟨zl2,fun pl hpl=>?_⟩
  have t1:=z_e hpi (.tup [.str "in",.ref p2])
  have t2:=z_e hpo (.tup [.str "out",.ref p3])
  have t3:=z_e hpl (.lst [.ref pi,.ref po])
  have fi:=t3 _ _ (t2 _ _ (z_c (H:=J1) (a:=pi) (o:=.tup [.str "in",.ref p2])))
  have fo:=t3 _ _ (z_c (H:=upd J1 pi (.tup [.str "in",.ref p2])) (a:=po) (o:=.tup [.str "out",.ref p3]))
  have fl:=z_c (H:=upd (upd J1 pi (.tup [.str "in",.ref p2])) po (.tup [.str "out",.ref p3])) (a:=pl) (o:=.lst [.ref pi,.ref po])
  have s2:=s1.trans (t1.trans (t2.trans t3))
  have f2:=t3 _ _ (t2 _ _ (t1 _ _ f1))
  have npl:pl≠pr:=(z_r (t2 _ _ (t1 _ _ f1)) hpl).symm
  generalize upd (upd (upd J1 pi (.tup [.str "in",.ref p2])) po (.tup [.str "out",.ref p3])) pl (.lst [.ref pi,.ref po])=J2 at fi fo fl s2 f2 ⊢
  clear t1 t2 t3 hpi hpo hpl
  refine ⟨pl,rfl,⟨_,SqL.of fl⟩,u_x (xs:=[.ref pi,.ref po]) (fun k σ J'=>∃ (x6 x7 x8 x9:Option V),σ=[some (.ref l),some (.ref pr),some (.str P.name),some (.ref p2),some (.ref p3),some (.ref p4),x6,x7,x8,x9]/\Kps [pr] J2 J'/\J' pr=some (.lst (rwV (R1++([dorW "in" P.ins,dorW "out" P.outs].take k).flatten)))) ⟨_,_,_,_,rfl,Kps.refl,by rw [List.take_zero,List.flatten_nil,List.append_nil];exact f2⟩ ?_ ?_ ?_⟩
  ·rintro k σ J' _ ⟨_,_,_,_,_,kp,_⟩
   exact SqL.of (kp _ _ (by simpa using npl) fl)
  ·rintro k v σ J' hv ⟨x6,x7,x8,x9,rfl,kp,f'⟩
   have kt:KeepT J2 J':=kp.keepT fun a ha xs e=>by rw [List.mem_singleton.mp ha,f2] at e;cases e
   have key:∀ (z:Str) (qs:List (Str×Nat)) (pz pd:Addr) (ws:List V),v = .ref pz->J2 pz=some (.tup [.str z,.ref pd])->J2 pd=some (.tup ws)->Dats J2 (qs.map portP) ws->(∀ q∈qs,PtOk q)->qs.length<=8->z.length<=10->(R1++([dorW "in" P.ins,dorW "out" P.outs].take k).flatten).length<=100+200->(([dorW "in" P.ins,dorW "out" P.outs]:List (List (List Str))).take (k+1)).flatten=([dorW "in" P.ins,dorW "out" P.outs].take k).flatten++dorW z qs->gTup K 2 (gCons (gName 6) (gCons (gName 7) gNil)) v [some (.ref l),some (.ref pr),some (.str P.name),some (.ref p2),some (.ref p3),some (.ref p4),x6,x7,x8,x9] J' fun σ2 H2=>tFor (iTup K (tVar 7)) (gTup K 2 (gCons (gName 8) (gCons (gName 9) gNil))) (tDrop (tBM K "list" rAppend (tVar 1) (tCons (tJoins [tFmt (tVar 6),tC (V.str (" ")),tFmt (tVar 8),tC (V.str (" ")),tFmt (tVar 9)] Str.empty) tNil))) { nx:=fun σ J'=>∃ (x6 x7 x8 x9:Option V),σ=[some (.ref l),some (.ref pr),some (.str P.name),some (.ref p2),some (.ref p3),some (.ref p4),x6,x7,x8,x9]/\Kps [pr] J2 J'/\J' pr=some (.lst (rwV (R1++([dorW "in" P.ins,dorW "out" P.outs].take (k+1)).flatten))),rt:=Q } σ2 H2:=fun z qs pz pd ws ev ez ed eD eok e8 z10 lR eT=>by
    subst ev
    have lq:=eD.length
    rw [List.length_map] at lq
    generalize hR2:R1++([dorW "in" P.ins,dorW "out" P.outs].take k).flatten=R2 at f' lR
    refine ⟨pz,_,rfl,SqT.of (kt _ _ ez),rfl,_,_,rfl,_,_,rfl,rfl,?_⟩
    refine ⟨_,rfl,pd,rfl,⟨_,SqT.of (kt _ _ ed)⟩,v_m (xs:=ws) (fun j σ J3=>∃ (x8 x9:Option V),σ=[some (.ref l),some (.ref pr),some (.str P.name),some (.ref p2),some (.ref p3),some (.ref p4),some (.str z),some (.ref pd),x8,x9]/\Kps [pr] J2 J3/\J3 pr=some (.lst (rwV (R2++dorW z (qs.take j))))) ⟨_,_,rfl,kp,by rw [List.take_zero,show dorW z []=[] from rfl,List.append_nil];exact f'⟩ ?_ ?_ ?_⟩
    ·rintro j σ J3 _ ⟨_,_,_,kp3,_⟩
     exact SqT.of ((kp3.keepT fun a ha xs e=>by rw [List.mem_singleton.mp ha,f2] at e;cases e) _ _ ed)
    ·rintro j v σ J3 hv ⟨x8,x9,rfl,kp3,f3⟩
     have kt3:KeepT J2 J3:=kp3.keepT fun a ha xs e=>by rw [List.mem_singleton.mp ha,f2] at e;cases e
     obtain ⟨d,hd,hdv⟩:=eD.get hv
     rw [List.getElem?_map] at hd
     obtain ⟨qq,hq,rfl⟩:=Option.map_eq_some_iff.mp hd
     have okq:=eok qq (List.mem_of_getElem? hq)
     obtain ⟨pq,ds,rfl,hpq,hds⟩:=hdv.tupI
     obtain ⟨d1,e1,rfl,g1,hds⟩:=hds.consI
     obtain ⟨d2,e2,rfl,g2,hds⟩:=hds.consI
     cases hds.nilI
     cases (show d1 = .str qq.1 by unfold Dat at g1;exact g1)
     cases g2.intI
     have q8:=okq.1.sz
     have w8:=okq.2.2
     have w9:(Str.ofString (toString (qq.2:Int))).length<=9:=w_i (n:=qq.2) (by lia)
     have lT:(R2++dorW z (qs.take j)).length<=400:=by
      unfold dorW
      rw [List.length_append,List.length_map,List.length_take]
      lia
     refine ⟨pq,_,rfl,SqT.of (kt3 _ _ hpq),rfl,_,_,rfl,_,_,rfl,rfl,?_⟩
     refine ⟨_,rfl,.inl ⟨rfl,_,SqL.of f3⟩,_,rfl,.inl ⟨_,rfl,small (by lia),_,rfl,small (by simp only [PySem.Str.length_append];lia),_,rfl,small (by simp only [PySem.Str.length_append];lia),_,rfl,.inl ⟨_,rfl,small (by lia),_,rfl,small (by simp only [PySem.Str.length_append];lia),_,rfl,small (by simp only [PySem.Str.length_append];lia),_,rfl,.inr ⟨_,rfl,x_f (by lia),_,rfl,small (by simp only [PySem.Str.length_append];lia),pr,_,_,rfl,rfl,f3,y_j (by rw [t_h];lia),?_⟩⟩⟩⟩
     refine ⟨_,_,rfl,kp3.set (by simp) _,?_⟩
     rw [z_c,door_eq,y_f hq,show dorW z (qs.take j++[qq])=dorW z (qs.take j)++([[z,qq.1,nw qq.2]]:List (List Str)) from List.map_append,<-List.append_assoc,r_j (R2++dorW z (qs.take j))]
     rfl
    rintro σ J3 ⟨x8,x9,rfl,kp3,f3⟩
    refine ⟨_,_,_,_,rfl,kp3,?_⟩
    rw [<-lq,List.take_length] at f3
    rw [eT,<-List.append_assoc,hR2]
    exact f3
   match k,hv with
   | 0,hv=>exact key "in" P.ins pi p2 ys (by cases hv;rfl) fi (s2 _ _ hp2) (hy.same s2) okP.ins okP.il (by decide) (by rw [List.take_zero,List.flatten_nil,List.append_nil];lia) (by simp)
   | 1,hv=>exact key "out" P.outs po p3 zs (by cases hv;rfl) fo (s2 _ _ hp3) (hz.same s2) okP.outs okP.ol (by decide) (by rw [show ([dorW "in" P.ins,dorW "out" P.outs].take 1).flatten=dorW "in" P.ins by simp,List.length_append];unfold dorW;rw [List.length_map];have:=okP.il;lia) (by simp)
   | k+2,hv=>exact nomatch hv
  rintro σ J3 ⟨x6,x7,x8,x9,rfl,kp,f3⟩
  rw [show (([dorW "in" P.ins,dorW "out" P.outs]:List (List (List Str))).take [V.ref pi,V.ref po].length).flatten=dorW "in" P.ins++dorW "out" P.outs by simp] at f3
  have s3:Same H J3:=fun c o e=>kp c o (by rw [List.mem_singleton];exact z_r e hpr) (s2 c o e)
  generalize hR3:R1++(dorW "in" P.ins++dorW "out" P.outs)=R3 at f3
  have lR3:R3.length=R1.length+P.ins.length+P.outs.length:=by rw [<-hR3,List.length_append,List.length_append];unfold dorW;rw [List.length_map,List.length_map];lia
  refine ⟨_,rfl,_,rfl,p4,rfl,⟨_,SqT.of (s3 _ _ hp4)⟩,w_e (xs:=us) (fun k zs J'=>Same J3 J'/\zs=rwV ((P.rows.map PRw.ws).take k)) ⟨Same.refl _,rfl⟩ ?_ ?_ ?_ ?_⟩
  ·rintro i zs J' _ ⟨s',_⟩
   exact SqT.of (s' _ _ (s3 _ _ hp4))
  ·rintro i zs J' hi ⟨_,rfl⟩
   rw [t_h,List.length_take]
   exact y_j (by lia)
  ·rintro i v zs J' hv ⟨s',rfl⟩
   obtain ⟨d,hd,hdv⟩:=hu.get hv
   rw [List.getElem?_map] at hd
   obtain ⟨rw',hq,rfl⟩:=Option.map_eq_some_iff.mp hd
   have hm:=List.mem_of_getElem? hq
   unfold tYes
   refine iteT ⟨_,rfl,rw',v,rfl,okP.rows rw' hm,hw8 rw' hm,hdv.same (s3.trans s'),fun J'' s''=>⟨s'.trans s'',?_⟩⟩
   rw [y_f (show (P.rows.map PRw.ws)[i]? = some rw'.ws by rw [List.getElem?_map,hq];rfl),r_j]
   rfl
  rintro zs J4 ⟨s4,e4⟩ pc hpc
  rw [List.take_of_length_le (by rw [List.length_map];lia)] at e4
  subst e4
  have t4:=z_e hpc (.lst (rwV (P.rows.map PRw.ws)))
  refine ⟨pr,pc,_,_,rfl,rfl,t4 _ _ (s4 _ _ f3),z_c,small (by rw [t_h,t_h,List.length_map];lia),fun pm hpm=>?_⟩
  refine ⟨zl1,fun p5 hp5=>?_⟩
  refine ⟨pm,p5,_,_,rfl,rfl,z_e hp5 _ _ _ z_c,z_c,small (by rw [List.length_append,t_h,t_h,List.length_map];show _+1<=_;lia),fun pn hpn=>?_⟩
  have s5:=(s3.trans (s4.trans t4)).trans ((z_e hpm (.lst (rwV R3++rwV (P.rows.map PRw.ws)))).trans (z_e hp5 (.lst [.str "end"])))
  refine ⟨pn,_,_,_,_,_,_,_,_,rfl,s5.free hpn,s5.trans (z_e hpn _),?_⟩
  rw [z_c,et,part_ws,show [V.str "end"]=rwV ([["end"]]:List (List Str)) from by unfold rwV;rw [List.map_singleton,x_d];rfl,<-r_j,<-r_j]
  rw [<-hR3,<-hR1]
  simp only [List.append_assoc]
 rintro σ J ⟨pr,x2,x3,x4,x5,x6,x7,x8,x9,rfl,hpr,sJ,fpr⟩
 rw [<-lx,List.take_length] at fpr
 refine ⟨rfl,_,rfl,_,pr,(plnW ps).map rowT,rfl,rfl,SqL.of fpr,?_,?_⟩
 ·have h1:=StrLaws.sumLen_le (B:=16800) ((plnW ps).map rowT) fun t ht=>by obtain ⟨ws,h1,rfl⟩:=List.mem_map.mp ht;exact w_g (tok.gw ws h1) (tok.len ws h1)
  have h2:=tok.many
  rw [List.length_map] at h1 ⊢
  rw [e10]
  show _+(plnW ps).length*1<=_
  lia
 ·rw [show Txt.join (Str.ofString "\n") ((plnW ps).map rowT)=txt (plnW ps) from by rw [e10];exact StrLaws.glued_eq_join _ _]
  exact q _ sJ
theorem j_y(T:Tx w K mg A)(n:Nat)(G_L_same:FnOk P w K mg base CX0 (n+2) A.a_L_same A.d_L_same ["_law_found", "_law_due"] (s_u n)):FnOk P w K mg base CX0 (n+3) A.a_L_same A.d_L_same ["_law_found", "_law_due"] (s_u (n+1)):=by
 refine T.F_L_same.ok i_o (fun vs H Q E h=>?_) (fun cdv A' outer s H vs Q E hr h=>?_)
 ·obtain ⟨d,v,u,rfl,hk,hv,hu,q⟩:=h
  rfl
 obtain ⟨d,v,u,rfl,hk,hv,hu,q⟩:=h
 refine ⟨_,(z_d (y_d (y_c (z_i (q_d (K:=K) rfl (S := "tuple") (T := "list")) rfl T.isinstance PyProof.Rows.boot_isinstance (z_a (pv 1) (z_a (y_k (z_a (y_r (v:=.ty "tuple") rfl T.tuple PyProof.Rows.boot_tuple rfl) (z_a (y_r (v:=.ty "list") rfl T.list PyProof.Rows.boot_list rfl) z_b))) z_b))) (fun _=>rfl)) (z_d (y_d (PW.pt (v_i (x_a (y_c (z_i (q_d (K:=K) rfl (S := "tuple") (T := "list")) rfl T.isinstance PyProof.Rows.boot_isinstance (z_a (pv 0) (z_a (y_k (z_a (y_r (v:=.ty "tuple") rfl T.tuple PyProof.Rows.boot_tuple rfl) (z_a (y_r (v:=.ty "list") rfl T.list PyProof.Rows.boot_list rfl) z_b))) z_b))) (fun _=>rfl))) (w_j (z_o n_j (z_i (z_x (T := "list")) rfl T.isinstance PyProof.Rows.boot_isinstance (z_a (pv 0) (z_a (y_r (v:=.ty "list") rfl T.list PyProof.Rows.boot_list rfl) z_b))) (z_i (z_x (T := "list")) rfl T.isinstance PyProof.Rows.boot_isinstance (z_a (pv 1) (z_a (y_r (v:=.ty "list") rfl T.list PyProof.Rows.boot_list rfl) z_b))) (nomark _))))) (z_g (z_l v_p)) z_q)
  (z_g (z_l (x_h (x_q y_q (z_i z_w rfl T.len PySem.boot_len (z_a (pv 0) z_b)) (z_i z_w rfl T.len PySem.boot_len (z_a (pv 1) z_b)) (nomark _)) (x_r (z_i w_w rfl T.all PyProof.Rows.boot_all (z_a (pe_compG ["_law_one", "_law_other"] [] (fun _ _ h=>h) rfl (pi_or (pi_zip rfl T.zip (z_a (pv 0) (z_a (pv 1) z_b))) (pi_zipt rfl T.zip (z_a (pv 0) (z_a (pv 1) z_b)))) (fun _ _ _ _=>(m_p rfl (w_f (y_g (i:=0) (show (["_law_one", "_law_other"]:List Str).Nodup by decide +kernel) rfl (Or.inl rfl)) (w_f (y_g (i:=1) (show (["_law_one", "_law_other"]:List Str).Nodup by decide +kernel) rfl (Or.inl rfl)) q_y)))) shp_tup2 (fun _ _ _ _=>y_m) (fun _ _ _ _=>(z_h G_L_same (hr.mono (by first | decide | lia)) rfl T.M_L_same T.F_L_same.kp T.B_L_same .nil pass0 (z_a (pv 0) (z_a (pv 1) z_b)))) rfl (show ∀ j∈([]:List Nat),j<2 by decide)) z_b))))))) z_q)
  (z_d (y_d (y_c (z_i (z_x (T := "str")) rfl T.isinstance PyProof.Rows.boot_isinstance (z_a (pv 1) (z_a (y_r (v:=.ty "str") rfl T.str PyProof.Rows.boot_str rfl) z_b))) (fun _=>rfl)) (z_g (z_l (x_h (z_i (z_x (T := "str")) rfl T.isinstance PyProof.Rows.boot_isinstance (z_a (pv 0) (z_a (y_r (v:=.ty "str") rfl T.str PyProof.Rows.boot_str rfl) z_b))) (x_r (x_q y_q (pv 0) (pv 1) (nomark _)))))) z_q)
  (z_g (z_l (x_h (z_i (z_x (T := "int")) rfl T.isinstance PyProof.Rows.boot_isinstance (z_a (pv 0) (z_a (y_r (v:=.ty "int") rfl T.int PyProof.Rows.boot_int rfl) z_b))) (x_h (pe_not (z_i (z_x (T := "bool")) rfl T.isinstance PyProof.Rows.boot_isinstance (z_a (pv 0) (z_a (y_r (v:=.ty "bool") rfl T.bool PyProof.Rows.boot_bool rfl) z_b)))) (x_r (x_q y_q (pv 0) (pv 1) (nomark _))))))))),?_⟩
 rcases hk with ⟨i,rfl⟩ | ⟨x,rfl,hx⟩ | ⟨ds,rfl,hl,he⟩ | ⟨ds,rfl,hl,he⟩
 ·have f1:=hv.intI
  have f2:=hu.intI
  subst f1 f2
  refine ⟨_,rfl,zl2,fun p1 hp1=>?_⟩
  refine ⟨_,p1,_,false,rfl,z_c,TyOf.int _,rfl,_,rfl,?_⟩
  have t1:=z_e hp1 (.tup [.ty "tuple",.ty "list"])
  generalize upd H p1 (.tup [.ty "tuple",.ty "list"])=H1 at t1 ⊢
  refine iteF ?_
  refine ⟨_,rfl,_,_,false,rfl,TyOf.int _,rfl,_,rfl,?_⟩
  refine iteF ?_
  refine ⟨_,rfl,_,_,true,rfl,TyOf.int i,rfl,_,rfl,?_⟩
  refine iteT ?_
  refine ⟨_,rfl,_,_,false,rfl,TyOf.int i,rfl,_,rfl,_,rfl,?_⟩
  refine iteT ?_
  exact ⟨_,rfl,_,rfl,rfl,(by show Q (.bl (decide (V.int i=V.int i))) H1;rw [decide_eq_true rfl];exact q H1 t1)⟩
 ·have f1:v = .str x:=by unfold Dat at hv;exact hv
  have f2:u = .str x:=by unfold Dat at hu;exact hu
  subst f1 f2
  refine ⟨_,rfl,zl2,fun p1 hp1=>?_⟩
  refine ⟨_,p1,_,false,rfl,z_c,TyOf.str _,rfl,_,rfl,?_⟩
  have t1:=z_e hp1 (.tup [.ty "tuple",.ty "list"])
  generalize upd H p1 (.tup [.ty "tuple",.ty "list"])=H1 at t1 ⊢
  refine iteF ?_
  refine ⟨_,rfl,_,_,true,rfl,TyOf.str _,rfl,_,rfl,?_⟩
  refine iteT ?_
  refine ⟨_,rfl,_,_,true,rfl,TyOf.str x,rfl,_,rfl,?_⟩
  refine iteT ?_
  exact ⟨_,rfl,_,rfl,rfl,(by show Q (.bl (decide (V.str x=V.str x))) H1;rw [decide_eq_true rfl];exact q H1 t1)⟩
 ·obtain ⟨p,xs,rfl,hp,hX⟩:=hv.tupI
  obtain ⟨r,ys,rfl,hr,hY⟩:=hu.tupI
  have l1:=hX.length
  have l2:=hY.length
  have lP:xs.length=ys.length:=by lia
  refine ⟨_,rfl,zl2,fun p1 hp1=>?_⟩
  have t1:=z_e hp1 (.tup [.ty "tuple",.ty "list"])
  have e1:=z_c (H:=H) (a:=p1) (o:=.tup [.ty "tuple",.ty "list"])
  generalize upd H p1 (.tup [.ty "tuple",.ty "list"])=H1 at t1 e1 ⊢
  refine ⟨_,p1,_,true,rfl,e1,TyOf.tup (t1 _ _ hr),rfl,_,rfl,?_⟩
  refine iteT ?_
  refine ⟨_,rfl,zl2,fun p2 hp2=>?_⟩
  have t2:=t1.trans (z_e hp2 (.tup [.ty "tuple",.ty "list"]))
  have e2:=z_c (H:=H1) (a:=p2) (o:=.tup [.ty "tuple",.ty "list"])
  generalize upd H1 p2 (.tup [.ty "tuple",.ty "list"])=H2 at t2 e2 ⊢
  refine ⟨_,p2,_,true,rfl,e2,TyOf.tup (t2 _ _ hp),rfl,_,rfl,?_⟩
  refine iteF ?_
  have hp2':=t2 _ _ hp
  have hr2':=t2 _ _ hr
  refine ⟨_,rfl,_,_,false,rfl,TyOf.tup hp2',rfl,_,rfl,_,_,false,rfl,TyOf.tup hr2',rfl,rfl,_,rfl,?_⟩
  refine iteF ?_
  refine ⟨_,rfl,_,_,rfl,.inr ⟨_,SqT.of hp2',rfl⟩,_,rfl,_,_,rfl,.inr ⟨_,SqT.of hr2',rfl⟩,rfl,_,rfl,?_⟩
  refine y_b (decide_eq_true (by rw [lP])) ?_
  refine .inr ⟨_,rfl,_,rfl,p,r,rfl,⟨_,SqT.of hp2'⟩,⟨_,SqT.of hr2'⟩,k_w (xs:=xs) (us:=ys) (fun i zs H'=>Same H2 H'/\zs=(List.replicate i true).map V.bl) ⟨Same.refl _,rfl⟩ ?_ lP ?_ ?_ ?_⟩
  ·rintro j zs H' _ ⟨s',_⟩
   exact ⟨SqT.of (s' _ _ hp2'),SqT.of (s' _ _ hr2')⟩
  ·rintro j zs H' hj ⟨_,rfl⟩
   rw [List.length_map,List.length_replicate]
   exact y_j (by lia)
  ·rintro j x y pp zs H' os hos hx hy ⟨s',rfl⟩ hpp
   obtain ⟨o1,o2,rfl⟩:=two_ad hos
   obtain ⟨dx,hdx,hxd⟩:=hX.get hx
   obtain ⟨dy,hdy,hyd⟩:=hY.get hy
   rw [hdx] at hdy
   cases hdy
   have u1:=z_e hpp (.tup [x,y])
   refine ⟨pp,_,rfl,SqT.of z_c,rfl,_,_,rfl,_,_,rfl,rfl,?_⟩
   generalize upd H' pp (.tup [x,y])=H3 at u1 ⊢
   have T3:=t2.trans (s'.trans u1)
   unfold tYes
   refine iteT ⟨_,rfl,_,rfl,dx,x,y,rfl,he dx (List.mem_of_getElem? hdx),hxd.same T3,hyd.same T3,fun H4 s4=>?_⟩
   refine ⟨s'.trans (u1.trans s4),?_⟩
   rw [List.replicate_succ',List.map_append]
   rfl
  rintro zs H' ⟨s',rfl⟩ pl hpl
  refine ⟨rfl,pl,_,rfl,SqL.of z_c,?_⟩
  have eall:(List.replicate xs.length true).all id=true:=by simp
  rw [eall]
  exact q _ (t2.trans (s'.trans (z_e hpl _)))
 ·obtain ⟨p,xs,rfl,hp,hX⟩:=hv.lstI
  obtain ⟨r,ys,rfl,hr,hY⟩:=hu.lstI
  have l1:=hX.length
  have l2:=hY.length
  have lP:xs.length=ys.length:=by lia
  refine ⟨_,rfl,zl2,fun p1 hp1=>?_⟩
  have t1:=z_e hp1 (.tup [.ty "tuple",.ty "list"])
  have e1:=z_c (H:=H) (a:=p1) (o:=.tup [.ty "tuple",.ty "list"])
  generalize upd H p1 (.tup [.ty "tuple",.ty "list"])=H1 at t1 e1 ⊢
  refine ⟨_,p1,_,true,rfl,e1,TyOf.lst (t1 _ _ hr),rfl,_,rfl,?_⟩
  refine iteT ?_
  refine ⟨_,rfl,zl2,fun p2 hp2=>?_⟩
  have t2:=t1.trans (z_e hp2 (.tup [.ty "tuple",.ty "list"]))
  have e2:=z_c (H:=H1) (a:=p2) (o:=.tup [.ty "tuple",.ty "list"])
  generalize upd H1 p2 (.tup [.ty "tuple",.ty "list"])=H2 at t2 e2 ⊢
  refine ⟨_,p2,_,true,rfl,e2,TyOf.lst (t2 _ _ hp),rfl,_,rfl,?_⟩
  refine iteF ?_
  have hp2':=t2 _ _ hp
  have hr2':=t2 _ _ hr
  refine ⟨_,rfl,_,_,true,rfl,TyOf.lst hp2',rfl,_,rfl,_,_,true,rfl,TyOf.lst hr2',rfl,rfl,_,rfl,?_⟩
  refine iteF ?_
  refine ⟨_,rfl,_,_,rfl,.inl ⟨_,SqL.of hp2',rfl⟩,_,rfl,_,_,rfl,.inl ⟨_,SqL.of hr2',rfl⟩,rfl,_,rfl,?_⟩
  refine y_b (decide_eq_true (by rw [lP])) ?_
  refine .inl ⟨_,rfl,_,rfl,p,r,rfl,⟨_,SqL.of hp2'⟩,⟨_,SqL.of hr2'⟩,comp_zip (xs:=xs) (us:=ys) (fun i zs H'=>Same H2 H'/\zs=(List.replicate i true).map V.bl) ⟨Same.refl _,rfl⟩ ?_ lP ?_ ?_ ?_⟩
  ·rintro j zs H' _ ⟨s',_⟩
   exact ⟨SqL.of (s' _ _ hp2'),SqL.of (s' _ _ hr2')⟩
  ·rintro j zs H' hj ⟨_,rfl⟩
   rw [List.length_map,List.length_replicate]
   exact y_j (by lia)
  ·rintro j x y pp zs H' os hos hx hy ⟨s',rfl⟩ hpp
   obtain ⟨o1,o2,rfl⟩:=two_ad hos
   obtain ⟨dx,hdx,hxd⟩:=hX.get hx
   obtain ⟨dy,hdy,hyd⟩:=hY.get hy
   rw [hdx] at hdy
   cases hdy
   have u1:=z_e hpp (.tup [x,y])
   refine ⟨pp,_,rfl,SqT.of z_c,rfl,_,_,rfl,_,_,rfl,rfl,?_⟩
   generalize upd H' pp (.tup [x,y])=H3 at u1 ⊢
   have T3:=t2.trans (s'.trans u1)
   unfold tYes
   refine iteT ⟨_,rfl,_,rfl,dx,x,y,rfl,he dx (List.mem_of_getElem? hdx),hxd.same T3,hyd.same T3,fun H4 s4=>?_⟩
   refine ⟨s'.trans (u1.trans s4),?_⟩
   rw [List.replicate_succ',List.map_append]
   rfl
  rintro zs H' ⟨s',rfl⟩ pl hpl
  refine ⟨rfl,pl,_,rfl,SqL.of z_c,?_⟩
  have eall:(List.replicate xs.length true).all id=true:=by simp
  rw [eall]
  exact q _ (t2.trans (s'.trans (z_e hpl _)))
theorem ok_law(T:Tx w K mg A)(G_L_plan:FnOk P w K mg base CX0 11 A.a_L_plan A.d_L_plan ["_law_bag_here"] m_y)(G_L_text:FnOk P w K mg base CX0 11 A.a_L_text A.d_L_text ["_law_plan_here"] l_b)(G_plan_text:FnOk P w K mg base CX0 11 A.a_plan_text A.d_plan_text ["plan"] l_d)(G_L_bag:FnOk P w K mg base CX0 1 A.a_L_bag A.d_L_bag ["_law_script", "_law_at"] (m_x K))(G_read_plan:FnOk P w K mg base CX0 16 A.a_read_plan A.d_read_plan ["text"] l_f)(G_L_same:FnOk P w K mg base CX0 15 A.a_L_same A.d_L_same ["_law_found", "_law_due"] (s_u 12)):FnOk P w K mg base CX0 17 A.a_law A.d_law ["_law_script"] (i_s K):=by
 refine T.F_law.ok sc_law (fun vs H Q E h=>?_) (fun cdv A' outer s H vs Q E hr h=>?_)
 ·obtain ⟨a,ns,rfl,hS,h63,q⟩:=h
  rfl
 obtain ⟨a,ns,rfl,hS,h63,q⟩:=h
 have hu64:=hr.units
 refine ⟨_,(z_d (x_j PassesOwn.never rfl (y_x rfl T.range (z_a (z_i (p_q rfl) rfl T.max PyProof.Rows.boot_max (z_a z_f (z_a (z_i (p_r rfl) rfl T.min PyProof.Rows.boot_min (z_a (z_i z_w rfl T.len PySem.boot_len (z_a (pv 0) z_b)) (z_a z_f z_b))) z_b))) z_b)) (y_g (i:=1) sc_law.nd rfl (Or.inl rfl))
    (z_d (z_p (i:=2) sc_law.nd rfl (Or.inl rfl) (z_h G_L_plan (hr.mono (by first | decide | lia)) rfl T.M_L_plan T.F_L_plan.kp T.B_L_plan .nil pass0 (z_a (z_h G_L_bag (hr.mono (by first | decide | lia)) rfl T.M_L_bag T.F_L_bag.kp T.B_L_bag .nil pass0 (z_a (pv 0) (z_a (pv 1) z_b))) z_b)))
  (z_d (z_p (i:=3) sc_law.nd rfl (Or.inl rfl) (z_h G_L_text (hr.mono (by first | decide | lia)) rfl T.M_L_text T.F_L_text.kp T.B_L_text .nil pass0 (z_a (pv 2) z_b)))
  (z_d (z_p (i:=4) sc_law.nd rfl (Or.inl rfl) (z_y s_i rfl T.list PyProof.Rows.boot_list (z_a (pv 2) z_b)))
  (z_d (z_p (i:=5) sc_law.nd rfl (Or.inl rfl) (z_h G_plan_text (hr.mono (by first | decide | lia)) rfl T.M_plan_text T.F_plan_text.kp T.B_plan_text .nil pass0 (z_a (pv 4) z_b)))
  (z_d (y_d (PW.pt (v_i (x_a (y_c (z_i (z_x (T := "str")) rfl T.isinstance PyProof.Rows.boot_isinstance (z_a (pv 5) (z_a (y_r (v:=.ty "str") rfl T.str PyProof.Rows.boot_str rfl) z_b))) (fun _=>rfl))) (v_i (z_o n_j (pv 5) (pv 3) (nomark _)) (w_j (z_o (op_neD hu64) (pv 4) (pv 2) (nomark _)))))) (z_g (z_l v_p)) z_q)
  (z_g (x_j PassesOwn.never rfl (y_x rfl T.range (z_a z_f z_b)) (y_g (i:=6) sc_law.nd rfl (Or.inl rfl))
    (z_d (z_p (i:=7) sc_law.nd rfl (Or.inl rfl) (z_h G_read_plan (hr.mono (by first | decide | lia)) rfl T.M_read_plan T.F_read_plan.kp T.B_read_plan .nil pass0 (z_a (pv 3) z_b)))
  (z_d (y_d (x_a (y_c (z_h G_L_same (hr.mono (by first | decide | lia)) rfl T.M_L_same T.F_L_same.kp T.B_L_same .nil pass0 (z_a (pv 7) (z_a (pv 2) z_b))) (fun _=>rfl))) (z_g (z_l v_p)) z_q)
  (z_d (y_z (w_t PySem.F.plainAttrs_list PySem.F.slot_list_append PySem.F.type_list_append x_e (pv 7) (z_a (z_j z_v (pv 7) z_f (fun _ _=>rfl)) z_b)))
  (z_g (y_z (pe_bm0 PySem.F.plainAttrs_list PySem.F.slot_list_reverse PySem.F.type_list_reverse l_w (pv 7)))))))))))))))
  (z_g (z_l v_p))),?_⟩
 refine ⟨_,rfl,_,_,rfl,.inl ⟨_,hS,rfl⟩,_,_,rfl,_,_,rfl,_,rfl,?_,?_,x_i (lo:=0) (fun k σ J=>∃ (x1 x2 x3 x4 x5 x6 x7:Option V),σ=[some (.ref a),x1,x2,x3,x4,x5,x6,x7]/\Same H J) ⟨_,_,_,_,_,_,_,rfl,Same.refl _⟩ ?_ ?_⟩
 ·split<;>split<;>lia
 ·split<;>split<;>lia
 ·rintro k σ J hk ⟨x1,x2,x3,x4,x5,x6,x7,rfl,sJ⟩
  refine ⟨_,rfl,_,rfl,a,ns,_,rfl,sJ.seq hS,h63,by lia,fun l b0 b1 hl hb0=>?_⟩
  have s1:=z_e hl (.lst [.int b0,.int b1])
  have B1:Bag (upd J l (.lst [.int b0,.int b1])) l:=⟨b0,b1,z_c,hb0⟩
  refine ⟨l,rfl,B1,fun p ps xs J2 hp g2 fp hD l1 l3 hG=>?_⟩
  have S2:=sJ.trans (Bg.same hl s1 g2)
  have hok:∀ p∈ps,p.Ok:=fun p h=>(hG p h).ok
  have tok:=plan_tok hG l3
  have dok:=plan_dok hok (by lia)
  clear B1 s1 g2 hp hl sJ
  refine ⟨_,rfl,p,ps,xs,rfl,hok,tok,fp,hD,fun J3 s3=>?_⟩
  refine ⟨_,rfl,p,_,rfl,.inl (SqL.of (s3 _ _ fp)),fun ph hph=>?_⟩
  have s4:=s3.trans (z_e hph (.lst xs))
  have fh:=z_c (H:=J3) (a:=ph) (o:=.lst xs)
  dsimp only [gName]
  generalize upd J3 ph (.lst xs)=J4 at s4 fh ⊢
  refine ⟨_,rfl,ph,ps,xs,rfl,hok,tok,fh,hD.same s4,fun J5 s5=>?_⟩
  have s25:=s4.trans s5
  refine ⟨_,rfl,_,_,true,rfl,TyOf.str _,rfl,_,rfl,?_⟩
  refine z_s rfl ⟨_,rfl,_,rfl,rfl,_,rfl,?_⟩
  refine z_s (by rw [decide_eq_true rfl];rfl) ⟨_,rfl,_,rfl,rEqD.eq (.list (ps.map PPt.dat)) (RdD.lst (SqL.of (s5 _ _ fh)) (hD.same s25).rd) (RdD.lst (SqL.of (s25 _ _ fp)) (hD.same s25).rd) (Cmp.mono dok.cmp (by decide)) ⟨_,rfl,?_⟩⟩
  refine z_s rfl ?_
  have S5:=S2.trans s25
  have fp5:=s25 _ _ fp
  have hD5:=hD.same s25
  dsimp only [gName]
  refine ⟨_,rfl,by decide,by decide,x_i (lo:=0) (fun j σ J'=>∃ (x6 x7:Option V),σ=[some (.ref a),some (.int (0+(k:Int))),some (.ref p),some (.str (txt (plnW ps))),some (.ref ph),some (.str (txt (plnW ps))),x6,x7]/\Same J5 J') ⟨_,_,rfl,Same.refl _⟩ ?_ ?_⟩
  ·rintro j σ J6 hj ⟨x6,x7,rfl,s6⟩
   refine ⟨_,rfl,ps,rfl,l1,by lia,hok,tok,fun b zs J7 hb s7 fb hZ=>?_⟩
   have s67:=s6.trans s7
   refine ⟨_,rfl,_,rfl,.list (ps.map PPt.dat),_,_,rfl,dok,Dat.lst fb hZ,Dat.lst (s67 _ _ fp5) (hD5.same s67),fun J8 s8=>⟨_,rfl,?_⟩⟩
   refine z_s rfl ?_
   have fb8:=s8 _ _ fb
   obtain ⟨z0,zr,rfl⟩:∃ z0 zr,zs=z0::zr:=List.exists_cons_of_length_pos (by have:=hZ.length;rw [List.length_map] at this;lia)
   have lz:=hZ.length
   rw [List.length_map] at lz
   refine ⟨_,rfl,.inl ⟨rfl,_,SqL.of fb8⟩,_,rfl,b,_,_,_,rfl,rfl,SqL.of fb8,(show atI (z0::zr) ((0:Nat):Int)=some z0 from z_t rfl),b,_,_,rfl,rfl,fb8,y_j (by lia),?_⟩
   refine ⟨_,rfl,.inl ⟨rfl,_,SqL.of z_c⟩,b,_,rfl,rfl,z_c,?_⟩
   have hb5:=s6.free hb
   exact ⟨_,_,rfl,x_y (x_y (s67.trans s8) hb5 _) hb5 _⟩
  rintro σ J6 ⟨x6,x7,rfl,s6⟩
  exact ⟨_,_,_,_,_,_,_,rfl,S5.trans s6⟩
 rintro σ J ⟨x1,x2,x3,x4,x5,x6,x7,rfl,sJ⟩
 exact q _
end
theorem o_u{P:Program}{w:World}{K:PySem.W.Frag}{mg:Str->Option Value}{base:Heap}{A:Ad}(T:Tx w K mg A)(G_L_take:FnOk P w K mg base CX0 1 A.a_L_take A.d_L_take ["_law_bag_here", "_law_many"] v_h)(G_L_name:FnOk P w K mg base CX0 2 A.a_L_name A.d_L_name ["_law_bag_here"] u_w)(G_L_rooms:FnOk P w K mg base CX0 2 A.a_L_rooms A.d_L_rooms ["_law_bag_here", "_law_room", "_law_many"] s_h):∀ n,FnOk P w K mg base CX0 (n+2) A.a_L_any A.d_L_any ["_law_bag_here", "_law_names", "_law_deep", "_law_room"] (r_r n)
 | 0=>s_y fun vs H Q E h=>by
  obtain ⟨_,_,_,_,_,h1,_⟩:=h
  lia
 | n+1=>(ok_L_any T G_L_take G_L_name G_L_rooms n (o_u T G_L_take G_L_name G_L_rooms n))
theorem l_o{P:Program}{w:World}{K:PySem.W.Frag}{mg:Str->Option Value}{base:Heap}{A:Ad}(T:Tx w K mg A)(G_words_of:FnOk P w K mg base CX0 1 A.a_words_of A.d_words_of ["numbers"] u_g):∀ n,FnOk P w K mg base CX0 (n+2) A.a_words_of_saying A.d_words_of_saying ["saying"] (p_k n)
 | 0=>s_y fun vs H Q E h=>by
  obtain ⟨d,v,_,h1,_⟩:=h
  exact absurd h1 (Nat.lt_irrefl 0)
 | n+1=>t_m T G_words_of n (l_o T G_words_of n)
theorem m_s{P:Program}{w:World}{K:PySem.W.Frag}{mg:Str->Option Value}{base:Heap}{A:Ad}(T:Tx w K mg A)(G_read_front:FnOk P w K mg base CX0 5 A.a_read_front A.d_read_front ["words", "place"] p_g)(G_is_word:FnOk P w K mg base CX0 1 A.a_is_word A.d_is_word ["thing"] u_c)(G_read_leaf:FnOk P w K mg base CX0 3 A.a_read_leaf A.d_read_leaf ["word"] n_q):∀ n,FnOk P w K mg base CX0 (n+6) A.a_read_saying A.d_read_saying ["words", "place", "deep"] (p_h n)
 | 0=>s_y fun vs H Q E h=>by
  obtain ⟨_,_,_,_,_,_,_,_,h1,_⟩:=h
  exact absurd h1 (Nat.lt_irrefl 0)
 | n+1=>r_y T G_read_front G_is_word G_read_leaf n (m_s T G_read_front G_is_word G_read_leaf n)
theorem m_t{P:Program}{w:World}{K:PySem.W.Frag}{mg:Str->Option Value}{base:Heap}{A:Ad}(T:Tx w K mg A):∀ n,FnOk P w K mg base CX0 (n+2) A.a_L_said A.d_L_said ["_law_saying"] (p_i n)
 | 0=>s_y fun vs H Q E h=>by
  obtain ⟨d,v,_,h1,_⟩:=h
  exact absurd h1 (Nat.lt_irrefl 0)
 | n+1=>j_x T n (m_t T n)
theorem m_u{P:Program}{w:World}{K:PySem.W.Frag}{mg:Str->Option Value}{base:Heap}{A:Ad}(T:Tx w K mg A):∀ n:Nat,FnOk P w K mg base CX0 (n+2) A.a_L_same A.d_L_same ["_law_found", "_law_due"] (s_u n)
 | 0=>s_y fun vs H Q E h=>by
  obtain ⟨_,_,_,_,h,_⟩:=h
  exact h
 | n+1=>j_y T n (m_u T n)
theorem all_ok{P:Program}{w:World}{K:PySem.W.Frag}{mg:Str->Option Value}{base:Heap}{A:Ad}(T:Tx w K mg A):FnOk P w K mg base CX0 17 A.a_law A.d_law ["_law_script"] (i_s K):=by
 have G_is_figures:=q_s (P:=P) (base:=base) T
 have G_number_of:=p_z (P:=P) (base:=base) T G_is_figures
 have G_numbers_of:=q_u (P:=P) (base:=base) T G_number_of
 have G_words_of:=n_i (P:=P) (base:=base) T
 have G_is_whole:=n_f (P:=P) (base:=base) T
 have G_is_between:=q_r (P:=P) (base:=base) T G_is_whole
 have G_is_word:=k_c (P:=P) (base:=base) T
 have G_is_name:=l_y (P:=P) (base:=base) T G_is_word
 have G_is_width:=n_g (P:=P) (base:=base) T G_is_between
 have G_two_to:=i_d (P:=P) (base:=base) T
 have G_is_number:=p_x (P:=P) (base:=base) T G_is_width G_is_between G_two_to
 have G_are_numbers:=r_w (P:=P) (base:=base) T G_is_number
 have G_is_formed:=p_w (P:=P) (base:=base) T G_is_name G_is_number G_is_between G_are_numbers G_is_word G_is_width
 have G_sayings_in:=q_w (P:=P) (base:=base) T
 have G_is_saying:=p_y (P:=P) (base:=base) T G_is_formed G_sayings_in
 have G_is_tuple_of:=r_x (P:=P) (base:=base) T
 have G_is_short:=n_e (P:=P) (base:=base) T
 have G_is_port:=k_b (P:=P) (base:=base) T G_is_tuple_of G_is_name G_is_width
 have G_is_use:=i_c (P:=P) (base:=base) T G_is_tuple_of G_is_name G_is_short G_is_saying
 have G_is_row:=i_b (P:=P) (base:=base) T G_is_use G_is_port G_is_saying G_is_number G_is_between
 have G_is_part:=l_z (P:=P) (base:=base) T G_is_tuple_of G_is_name G_is_short G_is_port G_is_row
 have G_is_plan:=k_a (P:=P) (base:=base) T G_is_part
 have G_rows_of:=k_d (P:=P) (base:=base) T
 have G_text_of:=k_e (P:=P) (base:=base) T
 have G_sections_of:=r_z (P:=P) (base:=base) T
 have G_words_behind:=r_d (P:=P) (base:=base) T
 have G_read_port:=o_e (P:=P) (base:=base) T G_words_behind G_number_of
 have G_numbers_at:=q_t (P:=P) (base:=base) T G_numbers_of
 have G_read_front:=q_v (P:=P) (base:=base) T G_numbers_at
 have G_read_leaf:=o_b (P:=P) (base:=base) T G_number_of
 have G_read_saying:=m_s (P:=P) (base:=base) T G_read_front G_is_word G_read_leaf 6
 have G_read_sayings:=r_c (P:=P) (base:=base) T G_read_saying
 have G_read_row:=n_h (P:=P) (base:=base) T G_read_sayings G_number_of
 have G_read_part:=o_c (P:=P) (base:=base) T G_sections_of G_words_behind G_read_port G_read_row
 have G_read_plan:=o_d (P:=P) (base:=base) T G_rows_of G_words_behind G_is_plan G_read_part
 have G_words_of_saying:=(l_o (P:=P) (base:=base) T G_words_of 6).mono (show 8<=9 by decide)
 have G_words_of_row:=r_e (P:=P) (base:=base) T G_words_of_saying G_words_of
 have G_plan_text:=o_a (P:=P) (base:=base) T G_text_of G_words_of_row
 have G_L_bag:=ok_L_bag (P:=P) (base:=base) T
 have G_L_take:=j_z (P:=P) (base:=base) T
 have G_L_name:=j_v (P:=P) (base:=base) T G_L_take
 have G_L_rooms:=l_x (P:=P) (base:=base) T G_L_take
 have G_L_any:=(fn_or (o_u (P:=P) (base:=base) T G_L_take G_L_name G_L_rooms 6) ((o_u (P:=P) (base:=base) T G_L_take G_L_name G_L_rooms 3).mono (show 5<=8 by decide))).mono (show 8<=9 by decide)
 have G_L_row:=ok_L_row (P:=P) (base:=base) T G_L_take G_L_name G_L_any
 have G_L_plan:=j_w (P:=P) (base:=base) T G_L_name G_L_take G_L_row
 have G_L_said:=(m_t (P:=P) (base:=base) T 6).mono (show 8<=9 by decide)
 have G_L_row_text:=q_q (P:=P) (base:=base) T G_L_said
 have G_L_text:=i_a (P:=P) (base:=base) T G_L_row_text
 have G_L_same:=(m_u (P:=P) (base:=base) T 12).mono (show 14<=15 by decide)
 exact ok_law T G_L_plan G_L_text G_plan_text G_L_bag G_read_plan G_L_same
theorem y_e{fd:FuncData}{ns:List Str}(h:∀ a0,bindArgs fd ⟨[a0],[]⟩=pure (ns.zip [a0])):∀ us:List Value,us.length=1->bindArgs fd ⟨us,[]⟩=pure (ns.zip us):=fun us hl=>by
 match us,hl with
 | [a0],_=>exact h a0
theorem v_n{fd:FuncData}{ns:List Str}(h:∀ a0 a1,bindArgs fd ⟨[a0,a1],[]⟩=pure (ns.zip [a0,a1])):∀ us:List Value,us.length=2->bindArgs fd ⟨us,[]⟩=pure (ns.zip us):=fun us hl=>by
 match us,hl with
 | [a0,a1],_=>exact h a0 a1
theorem r_b{fd:FuncData}{ns:List Str}(h:∀ a0 a1 a2,bindArgs fd ⟨[a0,a1,a2],[]⟩=pure (ns.zip [a0,a1,a2])):∀ us:List Value,us.length=3->bindArgs fd ⟨us,[]⟩=pure (ns.zip us):=fun us hl=>by
 match us,hl with
 | [a0,a1,a2],_=>exact h a0 a1 a2
theorem of_len4{fd:FuncData}{ns:List Str}(h:∀ a0 a1 a2 a3,bindArgs fd ⟨[a0,a1,a2,a3],[]⟩=pure (ns.zip [a0,a1,a2,a3])):∀ us:List Value,us.length=4->bindArgs fd ⟨us,[]⟩=pure (ns.zip us):=fun us hl=>by
 match us,hl with
 | [a0,a1,a2,a3],_=>exact h a0 a1 a2 a3
abbrev NI(K:PySem.W.Frag)(n:Str)(f:Addr):Prop:=nsIn K mainGlobals n=some (some (.ref f))
theorem all_mk{w:World}{K:PySem.W.Frag}{h:Heap}{mg:Str->Option Value}{fa:Addr}(X:K.In h)(G:h.Ns mainGlobals mg)(hfa:mg "law" = some (.ref fa))
  {f0 f1 f2 f3 f4 f5 f6 f7 f8 f9 f10 f11 f12 f13 f14 f15 f16 f17 f18 f19 f20 f21 f22 f23 f24 f25 f26 f27 f28 f29 f30 f31 f32 f33 f34 f35 f36 f37 f38 f39 f40 f41 f42 f43 f44 f45 f46 f47 f48 f49:Addr} {d0 d1 d2 d3 d4 d5 d6 d7 d8 d9 d10 d11 d12 d13 d14 d15 d16 d17 d18 d19 d20 d21 d22 d23 d24 d25 d26 d27 d28 d29 d30 d31 d32 d33 d34 d35 d36 d37 d38 d39 d40 d41 d42 d43 d44 d45 d46 d47 d48 d49:FuncData}
  (a0:NI K "is_figures" f0) (F0:Fun K "is_figures" "is_figures" w_m f0 d0)
  (a1:NI K "number_of" f1) (F1:Fun K "number_of" "number_of" v_b f1 d1)
  (a2:NI K "numbers_of" f2) (F2:Fun K "numbers_of" "numbers_of" w_o f2 d2)
  (a3:NI K "words_of" f3) (F3:Fun K "words_of" "words_of" v_z f3 d3)
  (a4:NI K "is_whole" f4) (F4:Fun K "is_whole" "is_whole" v_w f4 d4)
  (a5:NI K "is_between" f5) (F5:Fun K "is_between" "is_between" w_l f5 d5)
  (a6:NI K "is_word" f6) (F6:Fun K "is_word" "is_word" u_s f6 d6)
  (a7:NI K "is_name" f7) (F7:Fun K "is_name" "is_name" u_o f7 d7)
  (a8:NI K "is_width" f8) (F8:Fun K "is_width" "is_width" v_x f8 d8)
  (a9:NI K "two_to" f9) (F9:Fun K "two_to" "two_to" t_y f9 d9)
  (a10:NI K "is_number" f10) (F10:Fun K "is_number" "is_number" w_z f10 d10)
  (a11:NI K "is_saying" f11) (F11:Fun K "is_saying" "is_saying" v_a f11 d11)
  (a12:NI K "is_formed" f12) (F12:Fun K "is_formed" "is_formed" w_y f12 d12)
  (a13:NI K "are_numbers" f13) (F13:Fun K "are_numbers" "are_numbers" x_u f13 d13)
  (a14:NI K "sayings_in" f14) (F14:Fun K "sayings_in" "sayings_in" w_q f14 d14)
  (a15:NI K "is_plan" f15) (F15:Fun K "is_plan" "is_plan" u_q f15 d15)
  (a16:NI K "is_part" f16) (F16:Fun K "is_part" "is_part" u_p f16 d16)
  (a17:NI K "is_tuple_of" f17) (F17:Fun K "is_tuple_of" "is_tuple_of" x_v f17 d17)
  (a18:NI K "is_short" f18) (F18:Fun K "is_short" "is_short" v_v f18 d18)
  (a19:NI K "is_port" f19) (F19:Fun K "is_port" "is_port" u_r f19 d19)
  (a20:NI K "is_row" f20) (F20:Fun K "is_row" "is_row" t_w f20 d20)
  (a21:NI K "is_use" f21) (F21:Fun K "is_use" "is_use" t_x f21 d21)
  (a22:NI K "rows_of" f22) (F22:Fun K "rows_of" "rows_of" u_t f22 d22)
  (a23:NI K "text_of" f23) (F23:Fun K "text_of" "text_of" u_u f23 d23)
  (a24:NI K "sections_of" f24) (F24:Fun K "sections_of" "sections_of" x_x f24 d24)
  (a25:NI K "words_behind" f25) (F25:Fun K "words_behind" "words_behind" x_l f25 d25)
  (a26:NI K "read_plan" f26) (F26:Fun K "read_plan" "read_plan" v_f f26 d26)
  (a27:NI K "read_part" f27) (F27:Fun K "read_part" "read_part" v_e f27 d27)
  (a28:NI K "read_port" f28) (F28:Fun K "read_port" "read_port" v_g f28 d28)
  (a29:NI K "read_row" f29) (F29:Fun K "read_row" "read_row" v_y f29 d29)
  (a30:NI K "read_sayings" f30) (F30:Fun K "read_sayings" "read_sayings" x_k f30 d30)
  (a31:NI K "read_saying" f31) (F31:Fun K "read_saying" "read_saying" x_w f31 d31)
  (a32:NI K "read_leaf" f32) (F32:Fun K "read_leaf" "read_leaf" v_d f32 d32)
  (a33:NI K "read_front" f33) (F33:Fun K "read_front" "read_front" w_p f33 d33)
  (a34:NI K "numbers_at" f34) (F34:Fun K "numbers_at" "numbers_at" w_n f34 d34)
  (a35:NI K "plan_text" f35) (F35:Fun K "plan_text" "plan_text" v_c f35 d35)
  (a36:NI K "words_of_row" f36) (F36:Fun K "words_of_row" "words_of_row" x_m f36 d36)
  (a37:NI K "words_of_saying" f37) (F37:Fun K "words_of_saying" "words_of_saying" x_b f37 d37)
  (a38:NI K "_law_bag" f38) (F38:Fun K "_law_bag" "_law_bag" r_l f38 d38)
  (a39:NI K "_law_take" f39) (F39:Fun K "_law_take" "_law_take" t_u f39 d39)
  (a40:NI K "_law_name" f40) (F40:Fun K "_law_name" "_law_name" t_q f40 d40)
  (a41:NI K "_law_rooms" f41) (F41:Fun K "_law_rooms" "_law_rooms" u_n f41 d41)
  (a42:NI K "_law_any" f42) (F42:Fun K "_law_any" "_law_any" r_k f42 d42)
  (a43:NI K "_law_row" f43) (F43:Fun K "_law_row" "_law_row" r_m f43 d43)
  (a44:NI K "_law_plan" f44) (F44:Fun K "_law_plan" "_law_plan" t_r f44 d44)
  (a45:NI K "_law_said" f45) (F45:Fun K "_law_said" "_law_said" t_s f45 d45)
  (a46:NI K "_law_row_text" f46) (F46:Fun K "_law_row_text" "_law_row_text" w_k f46 d46)
  (a47:NI K "_law_text" f47) (F47:Fun K "_law_text" "_law_text" t_v f47 d47)
  (a48:NI K "_law_same" f48) (F48:Fun K "_law_same" "_law_same" t_t f48 d48)
  (a49:NI K "law" f49) (F49:Fun K "law" "law" i_l f49 d49)
  (z0:nsIn K mainGlobals "abs" = some none)
  (z1:nsIn K mainGlobals "all" = some none)
  (z2:nsIn K mainGlobals "bool" = some none)
  (z3:nsIn K mainGlobals "int" = some none)
  (z4:nsIn K mainGlobals "isinstance" = some none)
  (z5:nsIn K mainGlobals "len" = some none)
  (z6:nsIn K mainGlobals "list" = some none)
  (z7:nsIn K mainGlobals "max" = some none)
  (z8:nsIn K mainGlobals "min" = some none)
  (z9:nsIn K mainGlobals "range" = some none)
  (z10:nsIn K mainGlobals "str" = some none)
  (z11:nsIn K mainGlobals "tuple" = some none)
  (z12:nsIn K mainGlobals "zip" = some none)
  {t_MOST_FIGURES:Tok} (g_MOST_FIGURES:nsIn K mainGlobals "MOST_FIGURES" = some (some (.int 9 t_MOST_FIGURES)))
  {t_MOST_LETTERS:Tok} (g_MOST_LETTERS:nsIn K mainGlobals "MOST_LETTERS" = some (some (.int 8 t_MOST_LETTERS)))
  {t_MOST_WIDTH:Tok} (g_MOST_WIDTH:nsIn K mainGlobals "MOST_WIDTH" = some (some (.int 8 t_MOST_WIDTH)))
  {d_FORMS:Addr} (g_FORMS:nsIn K mainGlobals "FORMS" = some (some (.ref d_FORMS)))
  {es:Array DictEntry} {n_F:Nat} (l_FORMS:K.lookup d_FORMS=some ⟨.type "dict",none,.dict es n_F,#[]⟩) (kF:PySem.W.KeysLit w.params es.toList) (lo_F:(d_FORMS == sysModules)=false) {h0 h1 h2 h3 h4 h5 h6 h7 h8 h9 h10 h11 h12 h13 h14 h15:Int} {t0 t1 t2 t3 t4 t5 t6 t7 t8 t9 t10 t11 t12 t13 t14 t15:Tok} {p0 p1 p2 p3 p4 p5 p6 p7 p8 p9 p10 p11 p12 p13 p14 p15:Addr} (eF:es.toList=[⟨h0,.str "wire" t0,.ref p0⟩,⟨h1,.str "number" t1,.ref p1⟩,⟨h2,.str "not" t2,.ref p2⟩,⟨h3,.str "and" t3,.ref p3⟩,⟨h4,.str "or" t4,.ref p4⟩,⟨h5,.str "odd" t5,.ref p5⟩,⟨h6,.str "sum" t6,.ref p6⟩,⟨h7,.str "less" t7,.ref p7⟩,⟨h8,.str "under" t8,.ref p8⟩,⟨h9,.str "same" t9,.ref p9⟩,⟨h10,.str "choice" t10,.ref p10⟩,⟨h11,.str "up" t11,.ref p11⟩,⟨h12,.str "down" t12,.ref p12⟩,⟨h13,.str "join" t13,.ref p13⟩,⟨h14,.str "cut" t14,.ref p14⟩,⟨h15,.str "table" t15,.ref p15⟩]) {uF0:Option Addr} {nF0:Nat} {wF0:Array (Option Value)} {xF0 yF0:Tok} (lF0:K.lookup p0=some ⟨.type "tuple",uF0,.seq #[.int 2 xF0,.int 2 yF0] nF0,wF0⟩) {uF1:Option Addr} {nF1:Nat} {wF1:Array (Option Value)} {xF1 yF1:Tok} (lF1:K.lookup p1=some ⟨.type "tuple",uF1,.seq #[.int 3 xF1,.int 3 yF1] nF1,wF1⟩) {uF2:Option Addr} {nF2:Nat} {wF2:Array (Option Value)} {xF2 yF2:Tok} (lF2:K.lookup p2=some ⟨.type "tuple",uF2,.seq #[.int 2 xF2,.int 1 yF2] nF2,wF2⟩) {uF3:Option Addr} {nF3:Nat} {wF3:Array (Option Value)} {xF3 yF3:Tok} (lF3:K.lookup p3=some ⟨.type "tuple",uF3,.seq #[.int 3 xF3,.int 1 yF3] nF3,wF3⟩) {uF4:Option Addr} {nF4:Nat} {wF4:Array (Option Value)} {xF4 yF4:Tok} (lF4:K.lookup p4=some ⟨.type "tuple",uF4,.seq #[.int 3 xF4,.int 1 yF4] nF4,wF4⟩) {uF5:Option Addr} {nF5:Nat} {wF5:Array (Option Value)} {xF5 yF5:Tok} (lF5:K.lookup p5=some ⟨.type "tuple",uF5,.seq #[.int 3 xF5,.int 1 yF5] nF5,wF5⟩) {uF6:Option Addr} {nF6:Nat} {wF6:Array (Option Value)} {xF6 yF6:Tok} (lF6:K.lookup p6=some ⟨.type "tuple",uF6,.seq #[.int 3 xF6,.int 1 yF6] nF6,wF6⟩) {uF7:Option Addr} {nF7:Nat} {wF7:Array (Option Value)} {xF7 yF7:Tok} (lF7:K.lookup p7=some ⟨.type "tuple",uF7,.seq #[.int 3 xF7,.int 1 yF7] nF7,wF7⟩) {uF8:Option Addr} {nF8:Nat} {wF8:Array (Option Value)} {xF8 yF8:Tok} (lF8:K.lookup p8=some ⟨.type "tuple",uF8,.seq #[.int 3 xF8,.int 1 yF8] nF8,wF8⟩) {uF9:Option Addr} {nF9:Nat} {wF9:Array (Option Value)} {xF9 yF9:Tok} (lF9:K.lookup p9=some ⟨.type "tuple",uF9,.seq #[.int 3 xF9,.int 1 yF9] nF9,wF9⟩) {uF10:Option Addr} {nF10:Nat} {wF10:Array (Option Value)} {xF10 yF10:Tok} (lF10:K.lookup p10=some ⟨.type "tuple",uF10,.seq #[.int 4 xF10,.int 1 yF10] nF10,wF10⟩) {uF11:Option Addr} {nF11:Nat} {wF11:Array (Option Value)} {xF11 yF11:Tok} (lF11:K.lookup p11=some ⟨.type "tuple",uF11,.seq #[.int 3 xF11,.int 2 yF11] nF11,wF11⟩) {uF12:Option Addr} {nF12:Nat} {wF12:Array (Option Value)} {xF12 yF12:Tok} (lF12:K.lookup p12=some ⟨.type "tuple",uF12,.seq #[.int 3 xF12,.int 2 yF12] nF12,wF12⟩) {uF13:Option Addr} {nF13:Nat} {wF13:Array (Option Value)} {xF13 yF13:Tok} (lF13:K.lookup p13=some ⟨.type "tuple",uF13,.seq #[.int 3 xF13,.int 1 yF13] nF13,wF13⟩) {uF14:Option Addr} {nF14:Nat} {wF14:Array (Option Value)} {xF14 yF14:Tok} (lF14:K.lookup p14=some ⟨.type "tuple",uF14,.seq #[.int 4 xF14,.int 3 yF14] nF14,wF14⟩) {uF15:Option Addr} {nF15:Nat} {wF15:Array (Option Value)} {xF15 yF15:Tok} (lF15:K.lookup p15=some ⟨.type "tuple",uF15,.seq #[.int 4 xF15,.int 3 yF15] nF15,wF15⟩)
  {t_MOST_PIECES:Tok} (g_MOST_PIECES:nsIn K mainGlobals "MOST_PIECES" = some (some (.int 40 t_MOST_PIECES)))
  {t_MOST_DEEP:Tok} (g_MOST_DEEP:nsIn K mainGlobals "MOST_DEEP" = some (some (.int 6 t_MOST_DEEP)))
  {t_MOST_SHIFT:Tok} (g_MOST_SHIFT:nsIn K mainGlobals "MOST_SHIFT" = some (some (.int 8 t_MOST_SHIFT)))
  {t_MOST_LOW:Tok} (g_MOST_LOW:nsIn K mainGlobals "MOST_LOW" = some (some (.int 7 t_MOST_LOW)))
  {d_TABLE_SIZES:Addr} (g_TABLE_SIZES:nsIn K mainGlobals "TABLE_SIZES" = some (some (.ref d_TABLE_SIZES)))
  {u_TABLE_SIZES:Option Addr} {n_TABLE_SIZES:Nat} {w_TABLE_SIZES:Array (Option Value)} {x0_TABLE_SIZES x1_TABLE_SIZES x2_TABLE_SIZES x3_TABLE_SIZES:Tok} (l_TABLE_SIZES:K.lookup d_TABLE_SIZES=some ⟨.type "tuple",u_TABLE_SIZES,.seq #[.int 2 x0_TABLE_SIZES,.int 4 x1_TABLE_SIZES,.int 8 x2_TABLE_SIZES,.int 16 x3_TABLE_SIZES] n_TABLE_SIZES,w_TABLE_SIZES⟩)
  {t_MOST_PARTS:Tok} (g_MOST_PARTS:nsIn K mainGlobals "MOST_PARTS" = some (some (.int 6 t_MOST_PARTS)))
  {t_MOST_PORTS:Tok} (g_MOST_PORTS:nsIn K mainGlobals "MOST_PORTS" = some (some (.int 8 t_MOST_PORTS)))
  {t_MOST_ROWS:Tok} (g_MOST_ROWS:nsIn K mainGlobals "MOST_ROWS" = some (some (.int 20 t_MOST_ROWS)))
  {t_MOST_TIMES:Tok} (g_MOST_TIMES:nsIn K mainGlobals "MOST_TIMES" = some (some (.int 8 t_MOST_TIMES)))
  {t_MOST_DEEP_READ:Tok} (g_MOST_DEEP_READ:nsIn K mainGlobals "MOST_DEEP_READ" = some (some (.int 60 t_MOST_DEEP_READ)))
  : ∃ A:Ad,A.a_law=fa/\(∀ (s:Shared) (v:Value),BindsTo s A.d_law ⟨[v],[]⟩ [("_law_script",v)])/\Tx w K mg A:=by
 have e:=hfa.symm.trans (mg_of X G a49)
 cases e
 have hb:∀ (s:Shared) (v:Value),BindsTo s d49 ⟨[v],[]⟩ [("_law_script",v)]:=by
  obtain ⟨_,_,_,_,_,_,_,_,_,rfl,_,_⟩:=F49.ex
  exact fun s v=>.of_eq rfl
 refine ⟨⟨f0,d0,f1,d1,f2,d2,f3,d3,f4,d4,f5,d5,f6,d6,f7,d7,f8,d8,f9,d9,f10,d10,f11,d11,f12,d12,f13,d13,f14,d14,f15,d15,f16,d16,f17,d17,f18,d18,f19,d19,f20,d20,f21,d21,f22,d22,f23,d23,f24,d24,f25,d25,f26,d26,f27,d27,f28,d28,f29,d29,f30,d30,f31,d31,f32,d32,f33,d33,f34,d34,f35,d35,f36,d36,f37,d37,f38,d38,f39,d39,f40,d40,f41,d41,f42,d42,f43,d43,f44,d44,f45,d45,f46,d46,f47,d47,f48,d48,fa,d49,d_FORMS,d_TABLE_SIZES⟩,rfl,hb,?_⟩
 exact ⟨mg_none_of X G z0,mg_none_of X G z1,mg_none_of X G z2,mg_none_of X G z3,mg_none_of X G z4,mg_none_of X G z5,mg_none_of X G z6,mg_none_of X G z7,mg_none_of X G z8,mg_none_of X G z9,mg_none_of X G z10,mg_none_of X G z11,mg_none_of X G z12,⟨_,mg_of X G g_MOST_FIGURES⟩,⟨_,mg_of X G g_MOST_LETTERS⟩,⟨_,mg_of X G g_MOST_WIDTH⟩,mg_of X G g_FORMS,⟨[("wire",.ref p0),("number",.ref p1),("not",.ref p2),("and",.ref p3),("or",.ref p4),("odd",.ref p5),("sum",.ref p6),("less",.ref p7),("under",.ref p8),("same",.ref p9),("choice",.ref p10),("up",.ref p11),("down",.ref p12),("join",.ref p13),("cut",.ref p14),("table",.ref p15)],⟨⟨es,n_F,l_FORMS,kF,by rw [eF];repeat (first | exact .nil | refine .cons ⟨⟨_,rfl⟩,rfl⟩ ?_)⟩,lo_F⟩,rfl,fun z hz=>by
  simp only [words,List.mem_cons,List.not_mem_nil,or_false] at hz
  rcases hz with rfl | rfl | rfl | rfl | rfl | rfl | rfl | rfl | rfl | rfl | rfl | rfl | rfl | rfl | rfl | rfl
  ·exact ⟨p0,rfl,fun H=>.inr ⟨_,_,_,lF0,rfl,rfl,zl2,.cons ⟨_,rfl⟩ (.cons ⟨_,rfl⟩ .nil)⟩⟩
  ·exact ⟨p1,rfl,fun H=>.inr ⟨_,_,_,lF1,rfl,rfl,zl2,.cons ⟨_,rfl⟩ (.cons ⟨_,rfl⟩ .nil)⟩⟩
  ·exact ⟨p2,rfl,fun H=>.inr ⟨_,_,_,lF2,rfl,rfl,zl2,.cons ⟨_,rfl⟩ (.cons ⟨_,rfl⟩ .nil)⟩⟩
  ·exact ⟨p3,rfl,fun H=>.inr ⟨_,_,_,lF3,rfl,rfl,zl2,.cons ⟨_,rfl⟩ (.cons ⟨_,rfl⟩ .nil)⟩⟩
  ·exact ⟨p4,rfl,fun H=>.inr ⟨_,_,_,lF4,rfl,rfl,zl2,.cons ⟨_,rfl⟩ (.cons ⟨_,rfl⟩ .nil)⟩⟩
  ·exact ⟨p5,rfl,fun H=>.inr ⟨_,_,_,lF5,rfl,rfl,zl2,.cons ⟨_,rfl⟩ (.cons ⟨_,rfl⟩ .nil)⟩⟩
  ·exact ⟨p6,rfl,fun H=>.inr ⟨_,_,_,lF6,rfl,rfl,zl2,.cons ⟨_,rfl⟩ (.cons ⟨_,rfl⟩ .nil)⟩⟩
  ·exact ⟨p7,rfl,fun H=>.inr ⟨_,_,_,lF7,rfl,rfl,zl2,.cons ⟨_,rfl⟩ (.cons ⟨_,rfl⟩ .nil)⟩⟩
  ·exact ⟨p8,rfl,fun H=>.inr ⟨_,_,_,lF8,rfl,rfl,zl2,.cons ⟨_,rfl⟩ (.cons ⟨_,rfl⟩ .nil)⟩⟩
  ·exact ⟨p9,rfl,fun H=>.inr ⟨_,_,_,lF9,rfl,rfl,zl2,.cons ⟨_,rfl⟩ (.cons ⟨_,rfl⟩ .nil)⟩⟩
  ·exact ⟨p10,rfl,fun H=>.inr ⟨_,_,_,lF10,rfl,rfl,zl2,.cons ⟨_,rfl⟩ (.cons ⟨_,rfl⟩ .nil)⟩⟩
  ·exact ⟨p11,rfl,fun H=>.inr ⟨_,_,_,lF11,rfl,rfl,zl2,.cons ⟨_,rfl⟩ (.cons ⟨_,rfl⟩ .nil)⟩⟩
  ·exact ⟨p12,rfl,fun H=>.inr ⟨_,_,_,lF12,rfl,rfl,zl2,.cons ⟨_,rfl⟩ (.cons ⟨_,rfl⟩ .nil)⟩⟩
  ·exact ⟨p13,rfl,fun H=>.inr ⟨_,_,_,lF13,rfl,rfl,zl2,.cons ⟨_,rfl⟩ (.cons ⟨_,rfl⟩ .nil)⟩⟩
  ·exact ⟨p14,rfl,fun H=>.inr ⟨_,_,_,lF14,rfl,rfl,zl2,.cons ⟨_,rfl⟩ (.cons ⟨_,rfl⟩ .nil)⟩⟩
  ·exact ⟨p15,rfl,fun H=>.inr ⟨_,_,_,lF15,rfl,rfl,zl2,.cons ⟨_,rfl⟩ (.cons ⟨_,rfl⟩ .nil)⟩⟩⟩,⟨_,mg_of X G g_MOST_PIECES⟩,⟨_,mg_of X G g_MOST_DEEP⟩,⟨_,mg_of X G g_MOST_SHIFT⟩,⟨_,mg_of X G g_MOST_LOW⟩,mg_of X G g_TABLE_SIZES,fun H=>.inr ⟨_,_,_,l_TABLE_SIZES,rfl,rfl,zl4,.cons ⟨_,rfl⟩ (.cons ⟨_,rfl⟩ (.cons ⟨_,rfl⟩ (.cons ⟨_,rfl⟩ (.nil))))⟩,⟨_,mg_of X G g_MOST_PARTS⟩,⟨_,mg_of X G g_MOST_PORTS⟩,⟨_,mg_of X G g_MOST_ROWS⟩,⟨_,mg_of X G g_MOST_TIMES⟩,⟨_,mg_of X G g_MOST_DEEP_READ⟩,F0,F0.binds fun _ _ _ _ _ _ us hl=>y_e (fun _=>rfl) us hl,mg_of X G a0,F1,F1.binds fun _ _ _ _ _ _ us hl=>y_e (fun _=>rfl) us hl,mg_of X G a1,F2,F2.binds fun _ _ _ _ _ _ us hl=>y_e (fun _=>rfl) us hl,mg_of X G a2,F3,F3.binds fun _ _ _ _ _ _ us hl=>y_e (fun _=>rfl) us hl,mg_of X G a3,F4,F4.binds fun _ _ _ _ _ _ us hl=>y_e (fun _=>rfl) us hl,mg_of X G a4,F5,F5.binds fun _ _ _ _ _ _ us hl=>r_b (fun _ _ _=>rfl) us hl,mg_of X G a5,F6,F6.binds fun _ _ _ _ _ _ us hl=>y_e (fun _=>rfl) us hl,mg_of X G a6,F7,F7.binds fun _ _ _ _ _ _ us hl=>y_e (fun _=>rfl) us hl,mg_of X G a7,F8,F8.binds fun _ _ _ _ _ _ us hl=>y_e (fun _=>rfl) us hl,mg_of X G a8,F9,F9.binds fun _ _ _ _ _ _ us hl=>y_e (fun _=>rfl) us hl,mg_of X G a9,F10,F10.binds fun _ _ _ _ _ _ us hl=>v_n (fun _ _=>rfl) us hl,mg_of X G a10,F11,F11.binds fun _ _ _ _ _ _ us hl=>y_e (fun _=>rfl) us hl,mg_of X G a11,F12,F12.binds fun _ _ _ _ _ _ us hl=>y_e (fun _=>rfl) us hl,mg_of X G a12,F13,F13.binds fun _ _ _ _ _ _ us hl=>v_n (fun _ _=>rfl) us hl,mg_of X G a13,F14,F14.binds fun _ _ _ _ _ _ us hl=>y_e (fun _=>rfl) us hl,mg_of X G a14,F15,F15.binds fun _ _ _ _ _ _ us hl=>y_e (fun _=>rfl) us hl,mg_of X G a15,F16,F16.binds fun _ _ _ _ _ _ us hl=>y_e (fun _=>rfl) us hl,mg_of X G a16,F17,F17.binds fun _ _ _ _ _ _ us hl=>v_n (fun _ _=>rfl) us hl,mg_of X G a17,F18,F18.binds fun _ _ _ _ _ _ us hl=>v_n (fun _ _=>rfl) us hl,mg_of X G a18,F19,F19.binds fun _ _ _ _ _ _ us hl=>y_e (fun _=>rfl) us hl,mg_of X G a19,F20,F20.binds fun _ _ _ _ _ _ us hl=>y_e (fun _=>rfl) us hl,mg_of X G a20,F21,F21.binds fun _ _ _ _ _ _ us hl=>y_e (fun _=>rfl) us hl,mg_of X G a21,F22,F22.binds fun _ _ _ _ _ _ us hl=>y_e (fun _=>rfl) us hl,mg_of X G a22,F23,F23.binds fun _ _ _ _ _ _ us hl=>y_e (fun _=>rfl) us hl,mg_of X G a23,F24,F24.binds fun _ _ _ _ _ _ us hl=>v_n (fun _ _=>rfl) us hl,mg_of X G a24,F25,F25.binds fun _ _ _ _ _ _ us hl=>v_n (fun _ _=>rfl) us hl,mg_of X G a25,F26,F26.binds fun _ _ _ _ _ _ us hl=>y_e (fun _=>rfl) us hl,mg_of X G a26,F27,F27.binds fun _ _ _ _ _ _ us hl=>y_e (fun _=>rfl) us hl,mg_of X G a27,F28,F28.binds fun _ _ _ _ _ _ us hl=>y_e (fun _=>rfl) us hl,mg_of X G a28,F29,F29.binds fun _ _ _ _ _ _ us hl=>y_e (fun _=>rfl) us hl,mg_of X G a29,F30,F30.binds fun _ _ _ _ _ _ us hl=>y_e (fun _=>rfl) us hl,mg_of X G a30,F31,F31.binds fun _ _ _ _ _ _ us hl=>r_b (fun _ _ _=>rfl) us hl,mg_of X G a31,F32,F32.binds fun _ _ _ _ _ _ us hl=>y_e (fun _=>rfl) us hl,mg_of X G a32,F33,F33.binds fun _ _ _ _ _ _ us hl=>v_n (fun _ _=>rfl) us hl,mg_of X G a33,F34,F34.binds fun _ _ _ _ _ _ us hl=>r_b (fun _ _ _=>rfl) us hl,mg_of X G a34,F35,F35.binds fun _ _ _ _ _ _ us hl=>y_e (fun _=>rfl) us hl,mg_of X G a35,F36,F36.binds fun _ _ _ _ _ _ us hl=>y_e (fun _=>rfl) us hl,mg_of X G a36,F37,F37.binds fun _ _ _ _ _ _ us hl=>y_e (fun _=>rfl) us hl,mg_of X G a37,F38,F38.binds fun _ _ _ _ _ _ us hl=>v_n (fun _ _=>rfl) us hl,mg_of X G a38,F39,F39.binds fun _ _ _ _ _ _ us hl=>v_n (fun _ _=>rfl) us hl,mg_of X G a39,F40,F40.binds fun _ _ _ _ _ _ us hl=>y_e (fun _=>rfl) us hl,mg_of X G a40,F41,F41.binds fun _ _ _ _ _ _ us hl=>r_b (fun _ _ _=>rfl) us hl,mg_of X G a41,F42,F42.binds fun _ _ _ _ _ _ us hl=>of_len4 (fun _ _ _ _=>rfl) us hl,mg_of X G a42,F43,F43.binds fun _ _ _ _ _ _ us hl=>r_b (fun _ _ _=>rfl) us hl,mg_of X G a43,F44,F44.binds fun _ _ _ _ _ _ us hl=>y_e (fun _=>rfl) us hl,mg_of X G a44,F45,F45.binds fun _ _ _ _ _ _ us hl=>y_e (fun _=>rfl) us hl,mg_of X G a45,F46,F46.binds fun _ _ _ _ _ _ us hl=>y_e (fun _=>rfl) us hl,mg_of X G a46,F47,F47.binds fun _ _ _ _ _ _ us hl=>y_e (fun _=>rfl) us hl,mg_of X G a47,F48,F48.binds fun _ _ _ _ _ _ us hl=>v_n (fun _ _=>rfl) us hl,mg_of X G a48,F49,F49.binds fun _ _ _ _ _ _ us hl=>y_e (fun _=>rfl) us hl,mg_of X G a49⟩
theorem walk{l:PySem.W.OpenLaw}{q:Program}{loose:List Str}{XP:(Str->Option Value)->Heap->Prop}{YP:World->Heap->Prop}{d:DefRec}{K:Params->PySem.W.Frag}(hn:l.most=some 63)(hdf:d.params.defaults=[])(hnm:d.name = "law")
  (hY:∀ (w:World) (h:Heap),YP w h->(K w.params).In h)
  (F:∀ (w:World) (mg:Str->Option Value) (fa:Addr) (h:Heap),(K w.params).In h->h.Ns mainGlobals mg->mg "law" = some (.ref fa) ->
   ∃ A:Ad,A.a_law=fa/\(∀ (s:Shared) (v:Value),BindsTo s A.d_law ⟨[v],[]⟩ [("_law_script",v)])/\Tx w (K w.params) mg A) :
  PySem.W.WalkO q loose XP YP l.row.toRowW d [] (fun f vs=>PySem.call f vs):=by
 refine L2.walk_of (n:=63) (k:=17) (x := "_law_script") (CX:=fun _=>CX0) (sp:=fun w=>i_s (K w.params)) hn (by decide) hdf ⟨rfl,by decide,by decide⟩ hY (fun w mg fa h k1 k2 k3=>?_) (fun _ _ a ns hl _ hS=>⟨a,ns,rfl,hS,hl,fun _=>rfl⟩) fun _ _ _ _ _ z=>z
 obtain ⟨A,rfl,hb,T⟩:=F w mg fa h k1 k2 (by rw [<-hnm];exact k3)
 exact ⟨A.d_law,hb,fun base _ _=>all_ok T⟩
abbrev hS(x:String)(t:Nat):Value:=.str (Str.ofString x) t
abbrev hE(P:Params)(x:String)(t:Nat)(v:Value):DictEntry:=⟨PyData.keyHash P (Str.ofString x),.str (Str.ofString x) t,v⟩
abbrev hF(n q:String)(st:Stmt)(df kd doc pm:Value)(an:Option Addr)(cd ct:Value):Obj:=⟨.type "function",none,.func (fnOf n q (s_f st) (v_l st) (z_m st) df kd doc pm an cd ct),#[]⟩
abbrev hC(n q:String)(t:Nat)(l a k:Int)(r1 r2:Nat)(x y:Value)(r3:Nat)(u:Int)(z:Nat):Obj:=⟨.type "code",none,.fields [hS n t,hS q (t+1),hS "/claim/cut.py" (t+2),.int l 0,.int a 0,.int 0 0,.int 0 0,.int k 0,.ref r1,.bool true,.int 181 0,.ref r2,.none,x,y,.ref r3,.int u 0,.int l 0,hS "/claim/cut.py" z].toArray,#[]⟩
def hK:Params->PySem.W.Frag:=fun P =>
 (nat_lit 2,⟨.none,none,.dict ([]).toArray 0,#[]⟩) ::
 (nat_lit 3,⟨(.type "dict"),none,.dict (hE P "__name__" 165 (hS "law_lampforge_k63_plans_written_and_read" 633)::hE P "__doc__" 166 .none::hE P "__package__" 167 .none::hE P "__loader__" 168 (.builtin "__main__.__loader__#opaque")::hE P "__spec__" 169 .none::hE P "__annotations__" 170 (.ref 6)::hE P "__builtins__" 171 (.ref 4)::hE P "__file__" 173 (hS "/claim/cut.py" 172)::hE P "__cached__" 174 .none::hE P "ForgeError" 206 (.ref 24)::hE P "NoText" 222 (.ref 37)::hE P "MOST_FIGURES" 226 (.int 9 225)::hE P "is_figures" 232 (.ref 44)::hE P "number_of" 239 (.ref 51)::hE P "numbers_of" 245 (.ref 56)::hE P "words_of" 251 (.ref 61)::hE P "MOST_LETTERS" 255 (.int 8 254)::hE P "MOST_WIDTH" 257 (.int 8 256)::hE P "FORMS" 322 (.ref 62)::hE P "is_whole" 329 (.ref 85)::hE P "is_between" 338 (.ref 92)::hE P "is_word" 345 (.ref 99)::hE P "is_name" 351 (.ref 104)::hE P "is_width" 358 (.ref 111)::hE P "two_to" 367 (.ref 118)::hE P "is_number" 375 (.ref 125)::hE P "MOST_PIECES" 379 (.int 40 378)::hE P "MOST_DEEP" 381 (.int 6 380)::hE P "MOST_SHIFT" 383 (.int 8 382)::hE P "MOST_LOW" 385 (.int 7 384)::hE P "TABLE_SIZES" 390 (.ref 126)::hE P "is_saying" 402 (.ref 133)::hE P "is_formed" 410 (.ref 140)::hE P "are_numbers" 416 (.ref 145)::hE P "sayings_in" 423 (.ref 152)::hE P "MOST_PARTS" 427 (.int 6 426)::hE P "MOST_PORTS" 429 (.int 8 428)::hE P "MOST_ROWS" 431 (.int 20 430)::hE P "MOST_TIMES" 433 (.int 8 432)::hE P "is_plan" 439 (.ref 157)::hE P "is_part" 445 (.ref 162)::hE P "is_tuple_of" 453 (.ref 169)::hE P "is_short" 461 (.ref 176)::hE P "is_port" 468 (.ref 183)::hE P "is_row" 475 (.ref 190)::hE P "is_use" 481 (.ref 195)::hE P "rows_of" 489 (.ref 200)::hE P "text_of" 495 (.ref 205)::hE P "sections_of" 507 (.ref 212)::hE P "words_behind" 515 (.ref 219)::hE P "MOST_DEEP_READ" 519 (.int 60 518)::hE P "read_plan" 529 (.ref 226)::hE P "read_part" 535 (.ref 231)::hE P "read_port" 543 (.ref 238)::hE P "read_row" 553 (.ref 245)::hE P "read_sayings" 563 (.ref 252)::hE P "read_saying" 576 (.ref 259)::hE P "read_leaf" 584 (.ref 266)::hE P "read_front" 596 (.ref 273)::hE P "numbers_at" 605 (.ref 280)::hE P "plan_text" 611 (.ref 285)::hE P "words_of_row" 621 (.ref 292)::hE P "words_of_saying" 632 (.ref 299)::hE P "_law_bag" 645 (.ref 306)::hE P "_law_take" 654 (.ref 313)::hE P "_law_name" 663 (.ref 320)::hE P "_law_rooms" 676 (.ref 327)::hE P "_law_any" 682 (.ref 332)::hE P "_law_row" 688 (.ref 337)::hE P "_law_plan" 694 (.ref 342)::hE P "_law_said" 700 (.ref 347)::hE P "_law_row_text" 710 (.ref 354)::hE P "_law_text" 716 (.ref 359)::hE P "_law_same" 722 (.ref 364)::hE P "law" 736 (.ref 371)::[]).toArray 75,#[]⟩) ::
 (nat_lit 22,⟨(.type "tuple"),none,.seq [].toArray 0,#[]⟩) ::
 (nat_lit 23,⟨(.type "dict"),none,.dict (hE P "__module__" 196 (hS "lampforge.errors" 187)::hE P "__firstlineno__" 200 (.int 2 199)::hE P "__static_attributes__" 201 (.ref 22)::hE P "__weakref__" 203 (.ref 25)::hE P "__doc__" 204 .none::[]).toArray 3,#[]⟩) ::
 (nat_lit 24,⟨(.type "type"),none,.cls { name := "ForgeError",bases:=[(.type "ValueError")],mro:=[(.ref 24),(.type "ValueError"),(.type "Exception"),(.type "BaseException"),(.type "object")],ns:=23,qualname := "ForgeError",hasDict:=true,subclasses:=[(.ref 37)],abstract:=false,hasDel:=false },#[some (.ref 15),none,some (hS "ForgeError" 189),some (hS "ForgeError" 197),some (.builtin "ValueError.__new__"),some (.bool true)]⟩) ::
 (nat_lit 25,⟨(.type "getset_descriptor"),none,.fields [(hS "__weakref__" 202),(.ref 24),(.builtin "ExceptionGroup.__weakref__"),.none].toArray,#[]⟩) ::
 (nat_lit 35,⟨(.type "tuple"),none,.seq [].toArray 0,#[]⟩) ::
 (nat_lit 36,⟨(.type "dict"),none,.dict (hE P "__module__" 214 (hS "lampforge.errors" 187)::hE P "__firstlineno__" 218 (.int 4 217)::hE P "__static_attributes__" 219 (.ref 35)::hE P "__doc__" 220 .none::[]).toArray 2,#[]⟩) ::
 (nat_lit 37,⟨(.type "type"),none,.cls { name := "NoText",bases:=[(.ref 24)],mro:=[(.ref 37),(.ref 24),(.type "ValueError"),(.type "Exception"),(.type "BaseException"),(.type "object")],ns:=36,qualname := "NoText",hasDict:=true,subclasses:=[],abstract:=false,hasDel:=false },#[some (.ref 28),none,some (hS "NoText" 207),some (hS "NoText" 215),some (.builtin "ValueError.__new__"),some (.bool true)]⟩) ::
 (nat_lit 43,hC "is_figures" "is_figures" 227 8 1 3 40 41 .none .none 42 230 231) ::
 (nat_lit 44,hF "is_figures" "is_figures" w_m .none .none .none (hS "lampforge.figures" 223) none (.ref 43) .none) ::
 (nat_lit 50,hC "number_of" "number_of" 233 12 1 3 45 46 (.ref 47) (.ref 48) 49 237 238) ::
 (nat_lit 51,hF "number_of" "number_of" v_b .none .none .none (hS "lampforge.figures" 223) none (.ref 50) .none) ::
 (nat_lit 55,hC "numbers_of" "numbers_of" 240 16 1 3 52 53 .none .none 54 243 244) ::
 (nat_lit 56,hF "numbers_of" "numbers_of" w_o .none .none .none (hS "lampforge.figures" 223) none (.ref 55) .none) ::
 (nat_lit 60,hC "words_of" "words_of" 246 18 1 3 57 58 .none .none 59 249 250) ::
 (nat_lit 61,hF "words_of" "words_of" v_z .none .none .none (hS "lampforge.figures" 223) none (.ref 60) .none) ::
 (nat_lit 62,⟨(.type "dict"),none,.dict (hE P "wire" 258 (.ref 63)::hE P "number" 262 (.ref 64)::hE P "not" 266 (.ref 65)::hE P "and" 270 (.ref 66)::hE P "or" 274 (.ref 67)::hE P "odd" 278 (.ref 68)::hE P "sum" 282 (.ref 69)::hE P "less" 286 (.ref 70)::hE P "under" 290 (.ref 71)::hE P "same" 294 (.ref 72)::hE P "choice" 298 (.ref 73)::hE P "up" 302 (.ref 74)::hE P "down" 306 (.ref 75)::hE P "join" 310 (.ref 76)::hE P "cut" 314 (.ref 77)::hE P "table" 318 (.ref 78)::[]).toArray 16,#[]⟩) ::
 (nat_lit 63,⟨(.type "tuple"),none,.seq [(.int 2 259),(.int 2 260)].toArray 0,#[]⟩) ::
 (nat_lit 64,⟨(.type "tuple"),none,.seq [(.int 3 263),(.int 3 264)].toArray 0,#[]⟩) ::
 (nat_lit 65,⟨(.type "tuple"),none,.seq [(.int 2 267),(.int 1 268)].toArray 0,#[]⟩) ::
 (nat_lit 66,⟨(.type "tuple"),none,.seq [(.int 3 271),(.int 1 272)].toArray 0,#[]⟩) ::
 (nat_lit 67,⟨(.type "tuple"),none,.seq [(.int 3 275),(.int 1 276)].toArray 0,#[]⟩) ::
 (nat_lit 68,⟨(.type "tuple"),none,.seq [(.int 3 279),(.int 1 280)].toArray 0,#[]⟩) ::
 (nat_lit 69,⟨(.type "tuple"),none,.seq [(.int 3 283),(.int 1 284)].toArray 0,#[]⟩) ::
 (nat_lit 70,⟨(.type "tuple"),none,.seq [(.int 3 287),(.int 1 288)].toArray 0,#[]⟩) ::
 (nat_lit 71,⟨(.type "tuple"),none,.seq [(.int 3 291),(.int 1 292)].toArray 0,#[]⟩) ::
 (nat_lit 72,⟨(.type "tuple"),none,.seq [(.int 3 295),(.int 1 296)].toArray 0,#[]⟩) ::
 (nat_lit 73,⟨(.type "tuple"),none,.seq [(.int 4 299),(.int 1 300)].toArray 0,#[]⟩) ::
 (nat_lit 74,⟨(.type "tuple"),none,.seq [(.int 3 303),(.int 2 304)].toArray 0,#[]⟩) ::
 (nat_lit 75,⟨(.type "tuple"),none,.seq [(.int 3 307),(.int 2 308)].toArray 0,#[]⟩) ::
 (nat_lit 76,⟨(.type "tuple"),none,.seq [(.int 3 311),(.int 1 312)].toArray 0,#[]⟩) ::
 (nat_lit 77,⟨(.type "tuple"),none,.seq [(.int 4 315),(.int 3 316)].toArray 0,#[]⟩) ::
 (nat_lit 78,⟨(.type "tuple"),none,.seq [(.int 4 319),(.int 3 320)].toArray 0,#[]⟩) ::
 (nat_lit 84,hC "is_whole" "is_whole" 323 24 1 3 79 80 (.ref 81) (.ref 82) 83 327 328) ::
 (nat_lit 85,hF "is_whole" "is_whole" v_w .none .none .none (hS "lampforge.words" 252) none (.ref 84) .none) ::
 (nat_lit 91,hC "is_between" "is_between" 330 26 3 3 86 87 (.ref 88) (.ref 89) 90 336 337) ::
 (nat_lit 92,hF "is_between" "is_between" w_l .none .none .none (hS "lampforge.words" 252) none (.ref 91) .none) ::
 (nat_lit 98,hC "is_word" "is_word" 339 28 1 3 93 94 (.ref 95) (.ref 96) 97 343 344) ::
 (nat_lit 99,hF "is_word" "is_word" u_s .none .none .none (hS "lampforge.words" 252) none (.ref 98) .none) ::
 (nat_lit 103,hC "is_name" "is_name" 346 30 1 3 100 101 .none .none 102 349 350) ::
 (nat_lit 104,hF "is_name" "is_name" u_o .none .none .none (hS "lampforge.words" 252) none (.ref 103) .none) ::
 (nat_lit 110,hC "is_width" "is_width" 352 34 1 3 105 106 (.ref 107) (.ref 108) 109 356 357) ::
 (nat_lit 111,hF "is_width" "is_width" v_x .none .none .none (hS "lampforge.words" 252) none (.ref 110) .none) ::
 (nat_lit 117,hC "two_to" "two_to" 359 36 1 3 112 113 (.ref 114) (.ref 115) 116 365 366) ::
 (nat_lit 118,hF "two_to" "two_to" t_y .none .none .none (hS "lampforge.words" 252) none (.ref 117) .none) ::
 (nat_lit 124,hC "is_number" "is_number" 368 41 2 3 119 120 (.ref 121) (.ref 122) 123 373 374) ::
 (nat_lit 125,hF "is_number" "is_number" w_z .none .none .none (hS "lampforge.words" 252) none (.ref 124) .none) ::
 (nat_lit 126,⟨(.type "tuple"),none,.seq [(.int 2 386),(.int 4 387),(.int 8 388),(.int 16 389)].toArray 0,#[]⟩) ::
 (nat_lit 132,hC "is_saying" "is_saying" 391 49 1 3 127 128 (.ref 129) (.ref 130) 131 400 401) ::
 (nat_lit 133,hF "is_saying" "is_saying" v_a .none .none .none (hS "lampforge.sayings" 376) none (.ref 132) .none) ::
 (nat_lit 139,hC "is_formed" "is_formed" 403 65 1 3 134 135 (.ref 136) (.ref 137) 138 408 409) ::
 (nat_lit 140,hF "is_formed" "is_formed" w_y .none .none .none (hS "lampforge.sayings" 376) none (.ref 139) .none) ::
 (nat_lit 144,hC "are_numbers" "are_numbers" 411 82 2 3 141 142 .none .none 143 414 415) ::
 (nat_lit 145,hF "are_numbers" "are_numbers" x_u .none .none .none (hS "lampforge.sayings" 376) none (.ref 144) .none) ::
 (nat_lit 151,hC "sayings_in" "sayings_in" 417 86 1 3 146 147 (.ref 148) (.ref 149) 150 421 422) ::
 (nat_lit 152,hF "sayings_in" "sayings_in" w_q .none .none .none (hS "lampforge.sayings" 376) none (.ref 151) .none) ::
 (nat_lit 156,hC "is_plan" "is_plan" 434 93 1 3 153 154 .none .none 155 437 438) ::
 (nat_lit 157,hF "is_plan" "is_plan" u_q .none .none .none (hS "lampforge.plans" 424) none (.ref 156) .none) ::
 (nat_lit 161,hC "is_part" "is_part" 440 97 1 3 158 159 .none .none 160 443 444) ::
 (nat_lit 162,hF "is_part" "is_part" u_p .none .none .none (hS "lampforge.plans" 424) none (.ref 161) .none) ::
 (nat_lit 168,hC "is_tuple_of" "is_tuple_of" 446 104 2 3 163 164 (.ref 165) (.ref 166) 167 451 452) ::
 (nat_lit 169,hF "is_tuple_of" "is_tuple_of" x_v .none .none .none (hS "lampforge.plans" 424) none (.ref 168) .none) ::
 (nat_lit 175,hC "is_short" "is_short" 454 106 2 3 170 171 (.ref 172) (.ref 173) 174 459 460) ::
 (nat_lit 176,hF "is_short" "is_short" v_v .none .none .none (hS "lampforge.plans" 424) none (.ref 175) .none) ::
 (nat_lit 182,hC "is_port" "is_port" 462 108 1 3 177 178 (.ref 179) (.ref 180) 181 466 467) ::
 (nat_lit 183,hF "is_port" "is_port" u_r .none .none .none (hS "lampforge.plans" 424) none (.ref 182) .none) ::
 (nat_lit 189,hC "is_row" "is_row" 469 110 1 3 184 185 (.ref 186) (.ref 187) 188 473 474) ::
 (nat_lit 190,hF "is_row" "is_row" t_w .none .none .none (hS "lampforge.plans" 424) none (.ref 189) .none) ::
 (nat_lit 194,hC "is_use" "is_use" 476 122 1 3 191 192 .none .none 193 479 480) ::
 (nat_lit 195,hF "is_use" "is_use" t_x .none .none .none (hS "lampforge.plans" 424) none (.ref 194) .none) ::
 (nat_lit 199,hC "rows_of" "rows_of" 484 129 1 3 196 197 .none .none 198 487 488) ::
 (nat_lit 200,hF "rows_of" "rows_of" u_t .none .none .none (hS "lampforge.rows" 482) none (.ref 199) .none) ::
 (nat_lit 204,hC "text_of" "text_of" 490 137 1 3 201 202 .none .none 203 493 494) ::
 (nat_lit 205,hF "text_of" "text_of" u_u .none .none .none (hS "lampforge.rows" 482) none (.ref 204) .none) ::
 (nat_lit 211,hC "sections_of" "sections_of" 496 139 2 3 206 207 (.ref 208) (.ref 209) 210 505 506) ::
 (nat_lit 212,hF "sections_of" "sections_of" x_x .none .none .none (hS "lampforge.rows" 482) none (.ref 211) .none) ::
 (nat_lit 218,hC "words_behind" "words_behind" 508 148 2 3 213 214 (.ref 215) (.ref 216) 217 513 514) ::
 (nat_lit 219,hF "words_behind" "words_behind" x_l .none .none .none (hS "lampforge.rows" 482) none (.ref 218) .none) ::
 (nat_lit 225,hC "read_plan" "read_plan" 520 154 1 3 220 221 (.ref 222) (.ref 223) 224 527 528) ::
 (nat_lit 226,hF "read_plan" "read_plan" v_f .none .none .none (hS "lampforge.plantexts" 516) none (.ref 225) .none) ::
 (nat_lit 230,hC "read_part" "read_part" 530 167 1 3 227 228 .none .none 229 533 534) ::
 (nat_lit 231,hF "read_part" "read_part" v_e .none .none .none (hS "lampforge.plantexts" 516) none (.ref 230) .none) ::
 (nat_lit 237,hC "read_port" "read_port" 536 175 1 3 232 233 (.ref 234) (.ref 235) 236 541 542) ::
 (nat_lit 238,hF "read_port" "read_port" v_g .none .none .none (hS "lampforge.plantexts" 516) none (.ref 237) .none) ::
 (nat_lit 244,hC "read_row" "read_row" 544 178 1 3 239 240 (.ref 241) (.ref 242) 243 551 552) ::
 (nat_lit 245,hF "read_row" "read_row" v_y .none .none .none (hS "lampforge.plantexts" 516) none (.ref 244) .none) ::
 (nat_lit 251,hC "read_sayings" "read_sayings" 554 193 1 3 246 247 (.ref 248) (.ref 249) 250 561 562) ::
 (nat_lit 252,hF "read_sayings" "read_sayings" x_k .none .none .none (hS "lampforge.plantexts" 516) none (.ref 251) .none) ::
 (nat_lit 258,hC "read_saying" "read_saying" 564 201 3 3 253 254 (.ref 255) (.ref 256) 257 574 575) ::
 (nat_lit 259,hF "read_saying" "read_saying" x_w .none .none .none (hS "lampforge.plantexts" 516) none (.ref 258) .none) ::
 (nat_lit 265,hC "read_leaf" "read_leaf" 577 215 1 3 260 261 (.ref 262) (.ref 263) 264 582 583) ::
 (nat_lit 266,hF "read_leaf" "read_leaf" v_d .none .none .none (hS "lampforge.plantexts" 516) none (.ref 265) .none) ::
 (nat_lit 272,hC "read_front" "read_front" 585 220 2 3 267 268 (.ref 269) (.ref 270) 271 594 595) ::
 (nat_lit 273,hF "read_front" "read_front" w_p .none .none .none (hS "lampforge.plantexts" 516) none (.ref 272) .none) ::
 (nat_lit 279,hC "numbers_at" "numbers_at" 597 230 3 3 274 275 (.ref 276) (.ref 277) 278 603 604) ::
 (nat_lit 280,hF "numbers_at" "numbers_at" w_n .none .none .none (hS "lampforge.plantexts" 516) none (.ref 279) .none) ::
 (nat_lit 284,hC "plan_text" "plan_text" 606 234 1 3 281 282 .none .none 283 609 610) ::
 (nat_lit 285,hF "plan_text" "plan_text" v_c .none .none .none (hS "lampforge.plantexts" 516) none (.ref 284) .none) ::
 (nat_lit 291,hC "words_of_row" "words_of_row" 612 243 1 3 286 287 (.ref 288) (.ref 289) 290 619 620) ::
 (nat_lit 292,hF "words_of_row" "words_of_row" x_m .none .none .none (hS "lampforge.plantexts" 516) none (.ref 291) .none) ::
 (nat_lit 298,hC "words_of_saying" "words_of_saying" 622 251 1 3 293 294 (.ref 295) (.ref 296) 297 630 631) ::
 (nat_lit 299,hF "words_of_saying" "words_of_saying" x_b .none .none .none (hS "lampforge.plantexts" 516) none (.ref 298) .none) ::
 (nat_lit 305,hC "_law_bag" "_law_bag" 635 266 2 3 300 301 (.ref 302) (.ref 303) 304 643 644) ::
 (nat_lit 306,hF "_law_bag" "_law_bag" r_l .none .none .none (hS "law_lampforge_k63_plans_written_and_read" 633) none (.ref 305) .none) ::
 (nat_lit 312,hC "_law_take" "_law_take" 646 274 2 3 307 308 (.ref 309) (.ref 310) 311 652 653) ::
 (nat_lit 313,hF "_law_take" "_law_take" t_u .none .none .none (hS "law_lampforge_k63_plans_written_and_read" 633) none (.ref 312) .none) ::
 (nat_lit 319,hC "_law_name" "_law_name" 655 281 1 3 314 315 (.ref 316) (.ref 317) 318 661 662) ::
 (nat_lit 320,hF "_law_name" "_law_name" t_q .none .none .none (hS "law_lampforge_k63_plans_written_and_read" 633) none (.ref 319) .none) ::
 (nat_lit 326,hC "_law_rooms" "_law_rooms" 664 290 3 3 321 322 (.ref 323) (.ref 324) 325 674 675) ::
 (nat_lit 327,hF "_law_rooms" "_law_rooms" u_n .none .none .none (hS "law_lampforge_k63_plans_written_and_read" 633) none (.ref 326) .none) ::
 (nat_lit 331,hC "_law_any" "_law_any" 677 300 4 3 328 329 .none .none 330 680 681) ::
 (nat_lit 332,hF "_law_any" "_law_any" r_k .none .none .none (hS "law_lampforge_k63_plans_written_and_read" 633) none (.ref 331) .none) ::
 (nat_lit 336,hC "_law_row" "_law_row" 683 320 3 3 333 334 .none .none 335 686 687) ::
 (nat_lit 337,hF "_law_row" "_law_row" r_m .none .none .none (hS "law_lampforge_k63_plans_written_and_read" 633) none (.ref 336) .none) ::
 (nat_lit 341,hC "_law_plan" "_law_plan" 689 333 1 3 338 339 .none .none 340 692 693) ::
 (nat_lit 342,hF "_law_plan" "_law_plan" t_r .none .none .none (hS "law_lampforge_k63_plans_written_and_read" 633) none (.ref 341) .none) ::
 (nat_lit 346,hC "_law_said" "_law_said" 695 346 1 3 343 344 .none .none 345 698 699) ::
 (nat_lit 347,hF "_law_said" "_law_said" t_s .none .none .none (hS "law_lampforge_k63_plans_written_and_read" 633) none (.ref 346) .none) ::
 (nat_lit 353,hC "_law_row_text" "_law_row_text" 701 360 1 3 348 349 (.ref 350) (.ref 351) 352 708 709) ::
 (nat_lit 354,hF "_law_row_text" "_law_row_text" w_k .none .none .none (hS "law_lampforge_k63_plans_written_and_read" 633) none (.ref 353) .none) ::
 (nat_lit 358,hC "_law_text" "_law_text" 711 374 1 3 355 356 .none .none 357 714 715) ::
 (nat_lit 359,hF "_law_text" "_law_text" t_v .none .none .none (hS "law_lampforge_k63_plans_written_and_read" 633) none (.ref 358) .none) ::
 (nat_lit 363,hC "_law_same" "_law_same" 717 383 2 3 360 361 .none .none 362 720 721) ::
 (nat_lit 364,hF "_law_same" "_law_same" t_t .none .none .none (hS "law_lampforge_k63_plans_written_and_read" 633) none (.ref 363) .none) ::
 (nat_lit 370,hC "law" "law" 723 391 1 3 365 366 (.ref 367) (.ref 368) 369 734 735) ::
 (nat_lit 371,hF "law" "law" i_l .none .none .none (hS "law_lampforge_k63_plans_written_and_read" 633) none (.ref 370) .none)::[]
def hA:List Addr:=nat_lit 2::nat_lit 3::nat_lit 22::nat_lit 23::nat_lit 24::nat_lit 25::nat_lit 35::nat_lit 36::nat_lit 37::nat_lit 43::nat_lit 44::nat_lit 50::nat_lit 51::nat_lit 55::nat_lit 56::nat_lit 60::nat_lit 61::nat_lit 62::nat_lit 63::nat_lit 64::nat_lit 65::nat_lit 66::nat_lit 67::nat_lit 68::nat_lit 69::nat_lit 70::nat_lit 71::nat_lit 72::nat_lit 73::nat_lit 74::nat_lit 75::nat_lit 76::nat_lit 77::nat_lit 78::nat_lit 84::nat_lit 85::nat_lit 91::nat_lit 92::nat_lit 98::nat_lit 99::nat_lit 103::nat_lit 104::nat_lit 110::nat_lit 111::nat_lit 117::nat_lit 118::nat_lit 124::nat_lit 125::nat_lit 126::nat_lit 132::nat_lit 133::nat_lit 139::nat_lit 140::nat_lit 144::nat_lit 145::nat_lit 151::nat_lit 152::nat_lit 156::nat_lit 157::nat_lit 161::nat_lit 162::nat_lit 168::nat_lit 169::nat_lit 175::nat_lit 176::nat_lit 182::nat_lit 183::nat_lit 189::nat_lit 190::nat_lit 194::nat_lit 195::nat_lit 199::nat_lit 200::nat_lit 204::nat_lit 205::nat_lit 211::nat_lit 212::nat_lit 218::nat_lit 219::nat_lit 225::nat_lit 226::nat_lit 230::nat_lit 231::nat_lit 237::nat_lit 238::nat_lit 244::nat_lit 245::nat_lit 251::nat_lit 252::nat_lit 258::nat_lit 259::nat_lit 265::nat_lit 266::nat_lit 272::nat_lit 273::nat_lit 279::nat_lit 280::nat_lit 284::nat_lit 285::nat_lit 291::nat_lit 292::nat_lit 298::nat_lit 299::nat_lit 305::nat_lit 306::nat_lit 312::nat_lit 313::nat_lit 319::nat_lit 320::nat_lit 326::nat_lit 327::nat_lit 331::nat_lit 332::nat_lit 336::nat_lit 337::nat_lit 341::nat_lit 342::nat_lit 346::nat_lit 347::nat_lit 353::nat_lit 354::nat_lit 358::nat_lit 359::nat_lit 363::nat_lit 364::nat_lit 370::nat_lit 371::[]
def hV:Program:={ PySem.Challenge.pw_lampforge_k63_plans_written_and_read with main:={ PySem.Challenge.pw_lampforge_k63_plans_written_and_read.main with body:=[top 1,top 2,top 4,top 5,top 6,top 7,top 8,top 10,top 11,top 12,top 13,top 14,top 15,top 16,top 17,top 18,top 19,top 21,top 22,top 23,top 24,top 25,top 26,top 27,top 28,top 29,top 31,top 32,top 33,top 34,top 35,top 36,top 37,top 38,top 39,top 40,top 41,top 43,top 44,top 45,top 46,top 48,top 49,top 50,top 51,top 52,top 53,top 54,top 55,top 56,top 57,top 58,top 59,top 60,top 62,top 63,top 64,top 65,top 66,top 67,top 68,top 69,top 70,top 71,top 72,top 73] } }
abbrev hL:List Str:=[Str.ofString "FORMS"]
theorem hQ:∀ P,hA=(hK P).map (·.1):=fun _=>by kernel_rfl
set_option maxRecDepth 100000 in
set_option maxHeartbeats 0 in
theorem hSaid:PySem.Challenge.rw_lampforge_k63_plans_written_and_read.wellSaid=true:=by kernel_rfl
abbrev hR(n q:String)(st:Stmt):Obj:=⟨.none,none,.func { fnOf n q (s_f st) (v_l st) (z_m st) .none .none .none .none none .none .none with globals:=0 },#[]⟩
abbrev hr(n:String)(st:Stmt):Obj:=hR n n st
abbrev yT(xs:List Value):Obj:=⟨.type "tuple",none,.seq xs.toArray 0,#[]⟩
abbrev yN(xs:List Value):Obj:=⟨.none,none,.fields xs.toArray,#[]⟩
def yS:Nat->List String->List Value
 | _,[]=>[]
 | t,x::r=>hS x t::yS (t+1) r
abbrev pP:Program:=PySem.Challenge.pw_lampforge_k63_plans_written_and_read
def mrg:Nat->List (Nat×Obj)->List (Nat×Obj)->List Obj
 | n+1,(a,x)::r,(b,y)::s=>match Nat.blt a b with
  | true=>x::mrg n r ((b,y)::s)
  | false=>y::mrg n ((a,x)::r) s
 | n+1,[],(_,y)::s=>y::mrg n [] s
 | n+1,(_,x)::r,[]=>x::mrg n r []
 | _,_,_=>[]
def evs:List Obj->List Obj
 | a::_::r=>a::evs r
 | l=>l
def mkT:Nat->List Obj->PySem.W.BT
 | n+1,x::r=>.node x (mkT n (evs r)) (mkT n (evs r.tail))
 | _,_=>.nil
def dEs:Option Obj->List DictEntry
 | some o=>match o.data with
  | .dict es _=>es.toList
  | _=>[]
 | none=>[]
def fEs:Option Obj->List Value
 | some o=>match o.data with
  | .fields es=>es.toList
  | _=>[]
 | none=>[]
noncomputable def hX:Params->PySem.W.Frag:=fun P =>
 (0,PySem.W.boot_o_0 P) ::
 (1,PySem.W.boot_o_1 P) ::
 (4,PySem.W.boot_o_4 P) ::
 (5,PySem.W.boot_o_5 P) ::
 (6,PySem.W.boot_o_6 P) ::
 (7,PySem.W.boot_o_7 P) ::
 (8,PySem.W.boot_o_8 P) ::
 (9,PySem.W.boot_o_9 P) ::
 (10,PySem.W.boot_o_10 P) ::
 (11,yT []) ::
 (12,yN [(.int 2 0),(.int 0 0),(.ref 20),(.int 4 0),(.int 0 0),(.ref 33),(.int 8 0),(.int 0 0),(.ref 43),(.int 12 0),(.int 0 0),(.ref 50),(.int 16 0),(.int 0 0),(.ref 55),(.int 18 0),(.int 0 0),(.ref 60),(.int 24 0),(.int 0 0),(.ref 84),(.int 26 0),(.int 0 0),(.ref 91),(.int 28 0),(.int 0 0),(.ref 98),(.int 30 0),(.int 0 0),(.ref 103),(.int 34 0),(.int 0 0),(.ref 110),(.int 36 0),(.int 0 0),(.ref 117),(.int 41 0),(.int 0 0),(.ref 124),(.int 49 0),(.int 0 0),(.ref 132),(.int 65 0),(.int 0 0),(.ref 139),(.int 82 0),(.int 0 0),(.ref 144),(.int 86 0),(.int 0 0),(.ref 151),(.int 93 0),(.int 0 0),(.ref 156),(.int 97 0),(.int 0 0),(.ref 161),(.int 104 0),(.int 0 0),(.ref 168),(.int 106 0),(.int 0 0),(.ref 175),(.int 108 0),(.int 0 0),(.ref 182),(.int 110 0),(.int 0 0),(.ref 189),(.int 122 0),(.int 0 0),(.ref 194),(.int 129 0),(.int 0 0),(.ref 199),(.int 137 0),(.int 0 0),(.ref 204),(.int 139 0),(.int 0 0),(.ref 211),(.int 148 0),(.int 0 0),(.ref 218),(.int 154 0),(.int 0 0),(.ref 225),(.int 167 0),(.int 0 0),(.ref 230),(.int 175 0),(.int 0 0),(.ref 237),(.int 178 0),(.int 0 0),(.ref 244),(.int 193 0),(.int 0 0),(.ref 251),(.int 201 0),(.int 0 0),(.ref 258),(.int 215 0),(.int 0 0),(.ref 265),(.int 220 0),(.int 0 0),(.ref 272),(.int 230 0),(.int 0 0),(.ref 279),(.int 234 0),(.int 0 0),(.ref 284),(.int 243 0),(.int 0 0),(.ref 291),(.int 251 0),(.int 0 0),(.ref 298),(.int 266 0),(.int 0 0),(.ref 305),(.int 274 0),(.int 0 0),(.ref 312),(.int 281 0),(.int 0 0),(.ref 319),(.int 290 0),(.int 0 0),(.ref 326),(.int 300 0),(.int 0 0),(.ref 331),(.int 320 0),(.int 0 0),(.ref 336),(.int 333 0),(.int 0 0),(.ref 341),(.int 346 0),(.int 0 0),(.ref 346),(.int 360 0),(.int 0 0),(.ref 353),(.int 374 0),(.int 0 0),(.ref 358),(.int 383 0),(.int 0 0),(.ref 363),(.int 391 0),(.int 0 0),(.ref 370)]) ::
 (13,⟨(.type "code"),none,.fields [(hS "<module>" 182),(hS "<module>" 183),(hS "/claim/cut.py" 184),(.int 1 0),(.int 0 0),(.int 0 0),(.int 0 0),(.int 0 0),(.ref 11),(.bool false),(.int 181 0),(.ref 12),.none,.none,.none,.none,(.int 185 0),(.int 1 0),(hS "/claim/cut.py" 186)].toArray,#[]⟩) ::
 (14,⟨(.type "frame"),none,.plain,#[some (.ref 13),some (.ref 3),some (.ref 3),none,some (hS "__main__" 164),none,some (.ref 0)]⟩) ::
 (15,yT [(.type "ValueError")]) ::
 (16,⟨(.type "builtin_function_or_method"),none,.fields [(.builtin "type.__prepare__"),(.type "type")].toArray,#[]⟩) ::
 (17,⟨(.type "dict"),none,.dict (hE P "__module__" 196 (hS "lampforge.errors" 187)::hE P "__qualname__" 198 (hS "ForgeError" 197)::hE P "__firstlineno__" 200 (.int 2 199)::hE P "__static_attributes__" 201 (.ref 22)::[]).toArray 4,#[]⟩) ::
 (18,yT []) ::
 (19,yN []) ::
 (20,⟨(.type "code"),none,.fields [(hS "ForgeError" 191),(hS "ForgeError" 192),(hS "/claim/cut.py" 193),(.int 2 0),(.int 0 0),(.int 0 0),(.int 0 0),(.int 0 0),(.ref 18),(.bool false),(.int 181 0),(.ref 19),.none,.none,.none,.none,(.int 194 0),(.int 2 0),(hS "/claim/cut.py" 195)].toArray,#[]⟩) ::
 (21,⟨(.type "frame"),none,.plain,#[some (.ref 20),some (.ref 3),some (.ref 17),none,some (hS "lampforge.errors" 187),none,some (.ref 0)]⟩) ::
 (26,⟨(.type "super"),none,.fields [(.ref 24),(.ref 24),(.ref 24)].toArray,#[]⟩) ::
 (27,⟨(.type "builtin_function_or_method"),none,.fields [(.builtin "object.__init_subclass__"),(.ref 24)].toArray,#[]⟩) ::
 (28,yT [(.ref 24)]) ::
 (29,⟨(.type "builtin_function_or_method"),none,.fields [(.builtin "type.__prepare__"),(.type "type")].toArray,#[]⟩) ::
 (30,⟨(.type "dict"),none,.dict (hE P "__module__" 214 (hS "lampforge.errors" 187)::hE P "__qualname__" 216 (hS "NoText" 215)::hE P "__firstlineno__" 218 (.int 4 217)::hE P "__static_attributes__" 219 (.ref 35)::[]).toArray 4,#[]⟩) ::
 (31,yT []) ::
 (32,yN []) ::
 (33,⟨(.type "code"),none,.fields [(hS "NoText" 209),(hS "NoText" 210),(hS "/claim/cut.py" 211),(.int 4 0),(.int 0 0),(.int 0 0),(.int 0 0),(.int 0 0),(.ref 31),(.bool false),(.int 181 0),(.ref 32),.none,.none,.none,.none,(.int 212 0),(.int 4 0),(hS "/claim/cut.py" 213)].toArray,#[]⟩) ::
 (34,⟨(.type "frame"),none,.plain,#[some (.ref 33),some (.ref 3),some (.ref 30),none,some (hS "lampforge.errors" 187),none,some (.ref 0)]⟩) ::
 (38,⟨(.type "super"),none,.fields [(.ref 37),(.ref 37),(.ref 37)].toArray,#[]⟩) ::
 (39,⟨(.type "builtin_function_or_method"),none,.fields [(.builtin "object.__init_subclass__"),(.ref 37)].toArray,#[]⟩) ::
 (40,yT []) ::
 (41,yN []) ::
 (42,hr "is_figures" w_m) ::
 (45,yT []) ::
 (46,yN []) ::
 (47,yT (yS 236 ["word"])) ::
 (48,yT []) ::
 (49,hr "number_of" v_b) ::
 (52,yT []) ::
 (53,yN []) ::
 (54,hr "numbers_of" w_o) ::
 (57,yT []) ::
 (58,yN []) ::
 (59,hr "words_of" v_z) ::
 (79,yT []) ::
 (80,yN []) ::
 (81,yT (yS 326 ["thing"])) ::
 (82,yT []) ::
 (83,hr "is_whole" v_w) ::
 (86,yT []) ::
 (87,yN []) ::
 (88,yT (yS 333 ["thing", "low", "high"])) ::
 (89,yT []) ::
 (90,hr "is_between" w_l) ::
 (93,yT []) ::
 (94,yN []) ::
 (95,yT (yS 342 ["thing"])) ::
 (96,yT []) ::
 (97,hr "is_word" u_s) ::
 (100,yT []) ::
 (101,yN []) ::
 (102,hr "is_name" u_o) ::
 (105,yT []) ::
 (106,yN []) ::
 (107,yT (yS 355 ["thing"])) ::
 (108,yT []) ::
 (109,hr "is_width" v_x) ::
 (112,yT []) ::
 (113,yN []) ::
 (114,yT (yS 362 ["many", "power", "step"])) ::
 (115,yT []) ::
 (116,hr "two_to" t_y) ::
 (119,yT []) ::
 (120,yN []) ::
 (121,yT (yS 371 ["thing", "width"])) ::
 (122,yT []) ::
 (123,hr "is_number" w_z) ::
 (127,yT []) ::
 (128,yN []) ::
 (129,yT (yS 394 ["thing", "level", "deep", "pieces", "below", "piece"])) ::
 (130,yT []) ::
 (131,hr "is_saying" v_a) ::
 (134,yT []) ::
 (135,yN []) ::
 (136,yT (yS 406 ["thing", "word"])) ::
 (137,yT []) ::
 (138,hr "is_formed" w_y) ::
 (141,yT []) ::
 (142,yN []) ::
 (143,hr "are_numbers" x_u) ::
 (146,yT []) ::
 (147,yN []) ::
 (148,yT (yS 420 ["saying"])) ::
 (149,yT []) ::
 (150,hr "sayings_in" w_q) ::
 (153,yT []) ::
 (154,yN []) ::
 (155,hr "is_plan" u_q) ::
 (158,yT []) ::
 (159,yN []) ::
 (160,hr "is_part" u_p) ::
 (163,yT []) ::
 (164,yN []) ::
 (165,yT (yS 449 ["thing", "many"])) ::
 (166,yT []) ::
 (167,hr "is_tuple_of" x_v) ::
 (170,yT []) ::
 (171,yN []) ::
 (172,yT (yS 457 ["thing", "most"])) ::
 (173,yT []) ::
 (174,hr "is_short" v_v) ::
 (177,yT []) ::
 (178,yN []) ::
 (179,yT (yS 465 ["thing"])) ::
 (180,yT []) ::
 (181,hr "is_port" u_r) ::
 (184,yT []) ::
 (185,yN []) ::
 (186,yT (yS 472 ["thing"])) ::
 (187,yT []) ::
 (188,hr "is_row" t_w) ::
 (191,yT []) ::
 (192,yN []) ::
 (193,hr "is_use" t_x) ::
 (196,yT []) ::
 (197,yN []) ::
 (198,hr "rows_of" u_t) ::
 (201,yT []) ::
 (202,yN []) ::
 (203,hr "text_of" u_u) ::
 (206,yT []) ::
 (207,yN []) ::
 (208,yT (yS 499 ["rows", "words", "sections", "place", "word", "start"])) ::
 (209,yT []) ::
 (210,hr "sections_of" x_x) ::
 (213,yT []) ::
 (214,yN []) ::
 (215,yT (yS 511 ["row", "many"])) ::
 (216,yT []) ::
 (217,hr "words_behind" x_l) ::
 (220,yT []) ::
 (221,yN []) ::
 (222,yT (yS 523 ["text", "plan", "rows", "row"])) ::
 (223,yT []) ::
 (224,hr "read_plan" v_f) ::
 (227,yT []) ::
 (228,yN []) ::
 (229,hr "read_part" v_e) ::
 (232,yT []) ::
 (233,yN []) ::
 (234,yT (yS 539 ["row", "words"])) ::
 (235,yT []) ::
 (236,hr "read_port" v_g) ::
 (239,yT []) ::
 (240,yN []) ::
 (241,yT (yS 547 ["row", "middle", "head", "sayings"])) ::
 (242,yT []) ::
 (243,hr "read_row" v_y) ::
 (246,yT []) ::
 (247,yN []) ::
 (248,yT (yS 557 ["words", "sayings", "place", "read"])) ::
 (249,yT []) ::
 (250,hr "read_sayings" x_k) ::
 (253,yT []) ::
 (254,yN []) ::
 (255,yT (yS 567 ["words", "place", "deep", "read", "saying", "form", "inner"])) ::
 (256,yT []) ::
 (257,hr "read_saying" x_w) ::
 (260,yT []) ::
 (261,yN []) ::
 (262,yT (yS 580 ["word", "middle"])) ::
 (263,yT []) ::
 (264,hr "read_leaf" v_d) ::
 (267,yT []) ::
 (268,yN []) ::
 (269,yT (yS 588 ["words", "place", "word", "behind", "start", "sizes"])) ::
 (270,yT []) ::
 (271,hr "read_front" w_p) ::
 (274,yT []) ::
 (275,yN []) ::
 (276,yT (yS 600 ["words", "start", "behind"])) ::
 (277,yT []) ::
 (278,hr "numbers_at" w_n) ::
 (281,yT []) ::
 (282,yN []) ::
 (283,hr "plan_text" v_c) ::
 (286,yT []) ::
 (287,yN []) ::
 (288,yT (yS 615 ["row", "head", "words", "saying"])) ::
 (289,yT []) ::
 (290,hr "words_of_row" x_m) ::
 (293,yT []) ::
 (294,yN []) ::
 (295,yT (yS 625 ["saying", "word", "behind", "words", "inner"])) ::
 (296,yT []) ::
 (297,hr "words_of_saying" x_b) ::
 (300,yT []) ::
 (301,yN []) ::
 (302,yT (yS 638 ["_law_script", "_law_at", "_law_cell", "_law_mix", "_law_k"])) ::
 (303,yT []) ::
 (304,hr "_law_bag" r_l) ::
 (307,yT []) ::
 (308,yN []) ::
 (309,yT (yS 649 ["_law_bag_here", "_law_many", "_law_digit"])) ::
 (310,yT []) ::
 (311,hr "_law_take" t_u) ::
 (314,yT []) ::
 (315,yN []) ::
 (316,yT (yS 658 ["_law_bag_here", "_law_name_here", "_law_k"])) ::
 (317,yT []) ::
 (318,hr "_law_name" t_q) ::
 (321,yT []) ::
 (322,yN []) ::
 (323,yT (yS 667 ["_law_bag_here", "_law_room", "_law_many", "_law_left", "_law_rooms_here", "_law_k", "_law_more"])) ::
 (324,yT []) ::
 (325,hr "_law_rooms" u_n) ::
 (328,yT []) ::
 (329,yN []) ::
 (330,hr "_law_any" r_k) ::
 (333,yT []) ::
 (334,yN []) ::
 (335,hr "_law_row" r_m) ::
 (338,yT []) ::
 (339,yN []) ::
 (340,hr "_law_plan" t_r) ::
 (343,yT []) ::
 (344,yN []) ::
 (345,hr "_law_said" t_s) ::
 (348,yT []) ::
 (349,yN []) ::
 (350,yT (yS 704 ["_law_row_here", "_law_text_here", "_law_name_here", "_law_saying"])) ::
 (351,yT []) ::
 (352,hr "_law_row_text" w_k) ::
 (355,yT []) ::
 (356,yN []) ::
 (357,hr "_law_text" t_v) ::
 (360,yT []) ::
 (361,yN []) ::
 (362,hr "_law_same" t_t) ::
 (365,yT []) ::
 (366,yN []) ::
 (367,yT (yS 726 ["_law_script", "_law_at", "_law_plan_here", "_law_due", "_law_handed", "_law_found", "_law_again", "_law_back"])) ::
 (368,yT []) ::
 (369,hr "law" i_l)::[]
noncomputable def hW (P:Params):List Obj:=mrg 373 (hK P) (hX P)
noncomputable def HL (P:Params):Heap:={ objs:=(hW P).toArray,life:={} }
def eV:Env:={ scope:=pP.main.scope,locals:=mainNs,globals:=mainNs,cells:=[],code:=(.ref 13),frame:=some 14 }
def cD:Code:=.body (behindTheImports pP) eV
abbrev bP:List Frame:=[PySem.W.topFrame ⟨0,0,0,0⟩]
noncomputable abbrev g12 (P:Params):List Value:=fEs ((hW P)[12]?)
noncomputable abbrev g3 (P:Params):List DictEntry:=dEs ((hW P)[3]?)
noncomputable def w1 (P:Params):List Obj:=(((hW P).take 15).set 3 (PySem.W.boot_o_3 P)).set 12 ⟨.none,none,.fields ((g12 P).take 0).toArray,#[]⟩
noncomputable def w2 (P:Params):List Obj:=(((hW P).take 15).set 3 (PySem.W.boot_o_3 P)).set 12 ⟨.none,none,.fields ((g12 P).take 0).toArray,#[]⟩
noncomputable def w14 (P:Params):List Obj:=(((hW P).take 62).set 3 ⟨(.type "dict"),none,.dict (((g3 P).take 18).set 0 (hE P "__name__" 165 (hS "lampforge.words" 252))).toArray 18,#[]⟩).set 12 ⟨.none,none,.fields ((g12 P).take 18).toArray,#[]⟩
noncomputable def w15 (P:Params):List Obj:=(((hW P).take 79).set 3 ⟨(.type "dict"),none,.dict (((g3 P).take 19).set 0 (hE P "__name__" 165 (hS "lampforge.words" 252))).toArray 19,#[]⟩).set 12 ⟨.none,none,.fields ((g12 P).take 18).toArray,#[]⟩
noncomputable def w75 (P:Params):List Obj:=(((hW P).take 365).set 3 ⟨(.type "dict"),none,.dict ((g3 P).take 74).toArray 74,#[]⟩).set 12 ⟨.none,none,.fields ((g12 P).take 153).toArray,#[]⟩
noncomputable def w76 (P:Params):List Obj:=(hW P).take 372
theorem hOpen:∀ w:World,(PySem.W.fencedOpening treeTable pP w 4850).map (fun s=>(s.heap,s.gens,s.drawn,s.toks))=some (boot_heap w.params,Array.mk [],boot_drawn,boot_toks):=PySem.W.boot_open (by kernel_rfl) (by kernel_rfl) (fun s=>by kernel_rfl)
set_option maxRecDepth 100000 in
set_option maxHeartbeats 0 in
theorem hSize:∀ w:World,((boot_heap w.params).isNs mainGlobals&&(Array.mk []:Array GenState).size == 0,(boot_heap w.params).objs.size,(boot_heap w.params).nsMap mainGlobals (Str.ofString "__annotations__"))=(true,11,some (.ref 6)):=fun w=>by kernel_rfl
set_option maxRecDepth 100000 in
set_option maxHeartbeats 0 in
theorem hPre:∀ (w:World) (os:OsState),PySem.W.topGo treeTable pP w 11 (some (.ref 6)) 12 ⟨boot_heap w.params,Array.mk [],boot_drawn,boot_toks,os⟩ (PySem.W.topStub pP)=some (⟨{ objs:=(w1 w.params).toArray,life:={} },#[],⟨0,0,0,0⟩,187,os⟩,⟨denote treeTable cD,cD,⟨0,0,0,0⟩,bP⟩):=fun w os=>by kernel_rfl
set_option maxRecDepth 100000 in
set_option maxHeartbeats 0 in
theorem hBlk:∀ (w:World) (os:OsState),PySem.W.segRun treeTable pP w 11 (some (.ref 6)) 1 1 ⟨{ objs:=(w1 w.params).toArray,life:={} },#[],⟨0,0,0,0⟩,187,os⟩ (PySem.W.blockOf (behindTheImports pP) eV cD ⟨0,0,0,0⟩ bP)=some (.next,PySem.W.SharedT.abs ⟨mkT 20 (w2 w.params),15,{},#[],⟨0,0,0,0⟩,187,os⟩,cD,⟨0,0,0,0⟩):=fun w os=>by kernel_rfl
abbrev q0:List Stmt:=((behindTheImports pP).drop 0).take 12
set_option maxRecDepth 100000 in
set_option maxHeartbeats 0 in
theorem hG0:∀ (w:World) (os:OsState),segRunT treeTable pP w 11 (some (.ref 6)) 1 561 ⟨mkT 20 (w2 w.params),15,{},#[],⟨0,0,0,0⟩,187,os⟩ (piecesOf q0 eV cD ⟨0,0,0,0⟩ bP)=some (.next,⟨mkT 20 (w14 w.params),62,{},#[],⟨0,0,0,0⟩,258,os⟩,cD,⟨22,0,22,10⟩):=fun w os=>by kernel_rfl
abbrev q1:List Stmt:=((behindTheImports pP).drop 12).take 1
set_option maxRecDepth 100000 in
set_option maxHeartbeats 0 in
theorem hG1f:∀ (w:World) (os:OsState),segRunT treeTable pP (w.withFollow "special-get-raises" false) 11 (some (.ref 6)) 1 300 ⟨mkT 20 (w14 (w.withFollow "special-get-raises" false).params),62,{},#[],⟨0,0,0,0⟩,258,os⟩ (piecesOf q1 eV cD ⟨22,0,22,10⟩ bP)=some (.next,⟨mkT 20 (w15 (w.withFollow "special-get-raises" false).params),79,{},#[],⟨0,0,0,0⟩,323,os⟩,cD,⟨23,0,23,5⟩):=fun w os=>by kernel_rfl
set_option maxRecDepth 100000 in
set_option maxHeartbeats 0 in
theorem hG1t:∀ (w:World) (os:OsState),segRunT treeTable pP (w.withFollow "special-get-raises" true) 11 (some (.ref 6)) 1 300 ⟨mkT 20 (w14 (w.withFollow "special-get-raises" true).params),62,{},#[],⟨0,0,0,0⟩,258,os⟩ (piecesOf q1 eV cD ⟨22,0,22,10⟩ bP)=some (.next,⟨mkT 20 (w15 (w.withFollow "special-get-raises" true).params),79,{},#[],⟨0,0,0,0⟩,323,os⟩,cD,⟨23,0,23,5⟩):=fun w os=>by kernel_rfl
theorem hG1:∀ (w:World) (os:OsState),segRunT treeTable pP w 11 (some (.ref 6)) 1 300 ⟨mkT 20 (w14 w.params),62,{},#[],⟨0,0,0,0⟩,258,os⟩ (piecesOf q1 eV cD ⟨22,0,22,10⟩ bP)=some (.next,⟨mkT 20 (w15 w.params),79,{},#[],⟨0,0,0,0⟩,323,os⟩,cD,⟨23,0,23,5⟩):=fun w=>PySem.W.byRow2 "special-get-raises" (P:=fun w=>∀ os:OsState,segRunT treeTable pP w 11 (some (.ref 6)) 1 300 ⟨mkT 20 (w14 w.params),62,{},#[],⟨0,0,0,0⟩,258,os⟩ (piecesOf q1 eV cD ⟨22,0,22,10⟩ bP)=some (.next,⟨mkT 20 (w15 w.params),79,{},#[],⟨0,0,0,0⟩,323,os⟩,cD,⟨23,0,23,5⟩)) hG1f hG1t w
abbrev q2:List Stmt:=((behindTheImports pP).drop 13).take 60
set_option maxRecDepth 100000 in
set_option maxHeartbeats 0 in
theorem hG2:∀ (w:World) (os:OsState),segRunT treeTable pP w 11 (some (.ref 6)) 1 1468 ⟨mkT 20 (w15 w.params),79,{},#[],⟨0,0,0,0⟩,323,os⟩ (piecesOf q2 eV cD ⟨23,0,23,5⟩ bP)=some (.next,⟨mkT 20 (w75 w.params),365,{},#[],⟨0,0,0,0⟩,723,os⟩,cD,⟨383,0,390,106⟩):=fun w os=>by kernel_rfl
abbrev q3:List Stmt:=((behindTheImports pP).drop 73).take 1
set_option maxRecDepth 100000 in
set_option maxHeartbeats 0 in
theorem hG3:∀ (w:World) (os:OsState),segRunT treeTable pP w 11 (some (.ref 6)) 1 37 ⟨mkT 20 (w75 w.params),365,{},#[],⟨0,0,0,0⟩,723,os⟩ (piecesOf q3 eV cD ⟨383,0,390,106⟩ bP)=some (.next,⟨mkT 20 (w76 w.params),372,{},#[],⟨0,0,0,0⟩,737,os⟩,cD,⟨391,0,405,15⟩):=fun w os=>by kernel_rfl
set_option maxRecDepth 100000 in
set_option maxHeartbeats 0 in
theorem hFin:∀ (w:World) (os:OsState),PySem.W.topRun treeTable pP w 11 (some (.ref 6)) 2 (PySem.W.SharedT.abs ⟨mkT 20 (w76 w.params),372,{},#[],⟨0,0,0,0⟩,737,os⟩) ⟨PySem.W.doneF .next,cD,⟨391,0,405,15⟩,bP⟩=some ⟨HL w.params,#[],⟨0,0,0,0⟩,737,os⟩:=fun w os=>by kernel_rfl
theorem hSplit:behindTheImports pP=q0++(q1++(q2++(q3++[]))):=by kernel_rfl
theorem hRun:∀ (w:World) (os:OsState),PySem.W.topRun treeTable pP w 11 (some (.ref 6)) (12+(1+(561+(300+(1468+(37+2)))))) ⟨boot_heap w.params,Array.mk [],boot_drawn,boot_toks,os⟩ (PySem.W.topStub pP)=some ⟨HL w.params,#[],⟨0,0,0,0⟩,737,os⟩:=fun w os=>by
 refine PySem.W.go_top (hPre w os) (PySem.W.piece_block (hBlk w os) ?_)
 rw [hSplit]
 exact piece_app (segRun_of (hG0 w os)) (piece_app (segRun_of (hG1 w os)) (piece_app (segRun_of (hG2 w os)) (piece_app (segRun_of (hG3 w os)) (PySem.W.piece_nil (hFin w os)))))
set_option maxRecDepth 100000 in
set_option maxHeartbeats 0 in
theorem hk1:∀ (w:World) (os:OsState),(PySem.W.staticsOk (importedModules pP.main.body) (boot_heap w.params) (HL w.params)&&PySem.W.namesBound pP (HL w.params)&&PySem.W.gensDone ⟨HL w.params,#[],⟨0,0,0,0⟩,737,os⟩&&PySem.W.laidKept (boot_heap w.params) (HL w.params))=true:=fun w os=>by kernel_rfl
set_option maxRecDepth 100000 in
set_option maxHeartbeats 0 in
theorem hk2:∀ (w:World) (os:OsState),PySem.W.openSeen hV hL (importedModules pP.main.body) (fun s=>xlAt hV [] s&&recOk (PySem.W.RowW.records PySem.Challenge.rw_lampforge_k63_plans_written_and_read.row.toRowW) s) true ⟨HL w.params,#[],⟨0,0,0,0⟩,737,os⟩=PySem.W.openGood hV hL:=fun w os=>by kernel_rfl
set_option maxRecDepth 100000 in
set_option maxHeartbeats 0 in
theorem hk3:∀ (w:World) (os:OsState),PySem.W.Hook.obs (kHook hK hA hQ) ⟨HL w.params,#[],⟨0,0,0,0⟩,737,os⟩=PySem.W.Hook.val (kHook hK hA hQ) w:=fun w os=>by kernel_rfl
theorem hLeft:PySem.W.LeftO pP hV hL (fun s=>xlAt hV [] s&&recOk (PySem.W.RowW.records PySem.Challenge.rw_lampforge_k63_plans_written_and_read.row.toRowW) s) (PySem.W.Hook.obs (kHook hK hA hQ)) (PySem.W.Hook.val (kHook hK hA hQ)) 4850 true:=PySem.W.LeftO.of_pieces (H₁:=HL) hOpen hSize hRun (by kernel_rfl) fun w=>funext fun os=>congr (congrArg Prod.mk (hk1 w os)) (congr (congrArg Prod.mk (hk2 w os)) (hk3 w os))
end K63
open PySem PySem.W PyProof.Rows
set_option maxRecDepth 100000 in
set_option maxHeartbeats 0 in
theorem PySem.Challenge.cw_lampforge_k63_plans_written_and_read_holds : PySem.Challenge.rw_lampforge_k63_plans_written_and_read.Holds := by
 w_on
 refine PySem.W.holds_law K63.hSaid fun said=>?_
 refine PySem.W.holds_open (q:=K63.hV) (loose:=K63.hL) (Xt:=fun s=>xlAt K63.hV [] s&&recOk (PySem.W.RowW.records PySem.Challenge.rw_lampforge_k63_plans_written_and_read.row.toRowW) s) (XP:=PySem.W.XL K63.hV []) (Yf:=PySem.W.Hook.obs (kHook K63.hK K63.hA K63.hQ)) (Ya:=PySem.W.Hook.val (kHook K63.hK K63.hA K63.hQ)) (YP:=PySem.W.Hook.says (kHook K63.hK K63.hA K63.hQ)) (N:=4850) ?hl (PySem.W.Hook.of (kHook K63.hK K63.hA K63.hQ)) (PySem.W.Hook.keeps (kHook K63.hK K63.hA K63.hQ)) (fun s e=>PySem.W.xl_of s (Bool.and_eq_true_iff.mp e).1) PySem.W.XL.keeps (by rfl) (by rfl) (by rfl) (fun s e=>PySem.W.recFacts_of (Bool.and_eq_true_iff.mp e).2) (by rfl) (by first | assumption | decide +kernel) (by decide +kernel) ⟨rfl,rfl,rfl,rfl,rfl,by decide +kernel⟩ ?hw ?hc
 case hl=>exact K63.hLeft
 (case hw=>exact ⟨[.list []],by kernel_rfl,by kernel_rfl⟩)
 k_fill
 refine K63.walk (l:=PySem.Challenge.rw_lampforge_k63_plans_written_and_read) rfl rfl rfl (fun w h Y=>PySem.W.kIn_of Y) ?F
 case F =>
  intro w mg fa h KX G hmg
  refine' K63.all_mk KX G hmg ?_ ?_ ?_ ?_ ?_ ?_ ?_ ?_ ?_ ?_ ?_ ?_ ?_ ?_ ?_ ?_ ?_ ?_ ?_ ?_ ?_ ?_ ?_ ?_ ?_ ?_ ?_ ?_ ?_ ?_ ?_ ?_ ?_ ?_ ?_ ?_ ?_ ?_ ?_ ?_ ?_ ?_ ?_ ?_ ?_ ?_ ?_ ?_ ?_ ?_ ?_ ?_ ?_ ?_ ?_ ?_ ?_ ?_ ?_ ?_ ?_ ?_ ?_ ?_ ?_ ?_ ?_ ?_ ?_ ?_ ?_ ?_ ?_ ?_ ?_ ?_ ?_ ?_ ?_ ?_ ?_ ?_ ?_ ?_ ?_ ?_ ?_ ?_ ?_ ?_ ?_ ?_ ?_ ?_ ?_ ?_ ?_ ?_ ?_ ?_ ?_ ?_ ?_ ?_ ?_ ?_ ?_ ?_ ?_ ?_ ?_ ?_ ?_ ?_ ?_ ?_ ?_ ?_ ?kF ?lo_F ?eF ?_ ?_ ?_ ?_ ?_ ?_ ?_ ?_ ?_ ?_ ?_ ?_ ?_ ?_ ?_ ?_ ?_ ?_ ?_ ?_ ?_ ?_ ?_ ?_ ?_ ?_ ?_
  all_goals try first | k_is | (unfold K63.NI;k_is) | (refine' L2.fun_mk ?l ?c ?k;(case l=>k_is);(case c=>k_is);(case k=>k_is))
  (try case kF=>k_keys)
  (try case lo_F=>decide)
  (try case eF=>rfl)
  all_goals try first | k_is | rfl
