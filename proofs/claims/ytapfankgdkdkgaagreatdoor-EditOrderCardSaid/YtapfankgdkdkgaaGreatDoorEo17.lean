
import Derived.Test.YtapfankgdkdkgaaGreatDoorEo10
import Derived.Test.YtapfankgdkdkgaaGreatDoorEo14
import Derived.Test.YtapfankgdkdkgaaGreatDoorEo9
import Derived.Test.YtapfankgdkdkgaaGreatDoorEo16
namespace Go.Proofs
open Go.RowKit Go.Shelf Go.Lib
set_option linter.unusedVariables false
set_option linter.unusedSimpArgs false
namespace YtapfankgdkdkgaaGreatDoor.AM
theorem jcw {Pc:Nat->Nat->Prop} {w:World} {v:Value} {sz:Nat} {L:List (List Dat)} (hs:0<sz) (hP : ∀b o,Pc b o->b<w.heap.size) (h:DatRep Pc w v (.lst sz L)) :
  ∃ a cap,v = .slice a L.length cap/\L.length<=cap/\cap<=maxLen/\(∀x∈L,x.length=sz)/\(0<L.length->∃ b off,a=some ⟨b,off,none⟩/\b<w.heap.size /\
   ∃ c:Nat->Nat->Value,(∀k j,k<L.length->j<sz->Pc b (off+k*sz+j)/\w.cell? ⟨b,off+k*sz+j,none⟩=some (c k j)/\(c k j).oneCell'=true)/\∀(k j:Nat) (hk:k<L.length) (hj:j<(L[k]).length),DatRep Pc w (c k j) ((L[k])[j])):=by
 cases h with
 | lst a n cap sz xs b off c hn hcap hmax hsz ha hc hr =>
  subst hn
  exact ⟨a,cap,rfl,hcap,hmax,hsz,fun hl=>⟨b,off,ha hl,hP _ _ (hc 0 0 hl hs).1,c,hc,hr⟩⟩
theorem j6w {Pc:Nat->Nat->Prop} {w:World} {v:Value} {l:List (List UInt8)} (hP : ∀b o,Pc b o->b<w.heap.size) (h:DatRep Pc w v (.lst 1 (l.map (q01 .str)))) :
  ∃ a cap,v = .slice a l.length cap/\l.length<=cap/\cap<=maxLen/\(0<l.length->∃ b off,a=some ⟨b,off,none⟩/\b<w.heap.size/\∀k (hk:k<l.length),w.cell? ⟨b,off+k,none⟩=some (.string (ba l[k]))):=by
 obtain ⟨a,cap,rfl,h1,h2,h3,h4⟩:=jcw (by omega) hP h
 have hlen:(l.map (q01 .str)).length=l.length:=List.length_map ..
 rw [hlen] at h1
 refine ⟨a,cap,by rw [hlen],h1,h2,fun hl=>?_⟩
 obtain ⟨b,off,rfl,hb,c,hc,hr⟩:=h4 (by rw [hlen];exact hl)
 refine ⟨b,off,rfl,hb,fun k hk=>?_⟩
 have k1:=(hc k 0 (by rw [hlen];exact hk) (by omega)).2.1
 have k2:=hr k 0 (by simpa using hk) (by rw [List.getElem_map];simp [q01])
 simp only [List.getElem_map] at k2
 have k3:DatRep Pc w (c k 0) (.v (.string (ba l[k]))):=k2
 have k4:c k 0 = .string (ba l[k]):=by generalize c k 0=u at k3;cases k3 with|v x=>rfl
 rw [k4] at k1
 simpa using k1
theorem join_none (a:Option Addr) (cap:Nat) (sep:ByteArray) (w:World):Calls Tryz.prog 61 #[.slice a 0 cap,.string sep] w fun e w'=>e = .returned (.string ByteArray.empty)/\w'=w:=by
 go_enter Tryz.func61,Tryz.ntmps61
 go_wp2
 go_ret
 exact ⟨rfl,rfl⟩
def qjj (xs:List (List UInt8)) (sep:List UInt8):Option (List UInt8):=if xs.length<=140737488355328/\(Lib.join xs sep).length<=140737488355328 then some (Lib.join xs sep) else none
def j9t:FC:={ f:=61,args:=[.one (.c (.d (.lst .str))),qp8],res:=qp8,F:=fun p=>qjj p.1 p.2 }
theorem jlu:q0g Inv Tryz.prog j9t:=fun G hG=>⟨⟨by kernel_rfl,fun a r h=>by
 obtain ⟨xs,sep⟩:=a
 have h':qjj xs sep=some r:=h
 unfold qjj at h'
 split at h'
 case isFalse=>cases h'
 rename_i hc
 obtain rfl:=Option.some.inj h'
 intro Pc w vs hg hlt hv
 obtain ⟨l⟩:=vs
 match l,hv with
 | [x,y],⟨h1,h2,_⟩ =>
  obtain rfl:y = .string (ba sep):=q09 h2
  obtain ⟨a,cap,rfl,hl1,hl2,hcs⟩:=j6w (Pc:=Pc) hlt h1
  by_cases h0:xs = []
  ·subst h0
   refine (join_none a cap (ba sep) w).mono ?_
   rintro e w' ⟨rfl,rfl⟩
   exact q3p rfl (Below.refl _ _) (q06 _)
  obtain ⟨b,off,rfl,hb,hcell⟩:=hcs (List.length_pos_iff.2 h0)
  have e1:(xs.map ba).map (fun x:ByteArray=>x.data.toList)=xs:=by rw [List.map_map];exact (List.map_congr_left fun x _=>by simp [ba]).trans (List.map_id _)
  have e2:(ba sep).data.toList=sep:=by simp [ba]
  have hh:=Tryz.strings_Join b off cap (xs.map ba) (ba sep) w (fun j x hj=>by
   rw [List.getElem?_map] at hj
   obtain ⟨y,hy,rfl⟩:=Option.map_eq_some_iff.1 hj
   obtain ⟨hk,rfl⟩:=List.getElem?_eq_some_iff.1 hy
   exact hcell j hk) hb (by rw [List.length_map];exact hc.1) (by rw [List.length_map];exact hl1) (by rw [e1,e2];exact hc.2)
  rw [e1,e2,List.length_map] at hh
  refine hh.mono ?_
  rintro e w' ⟨rfl,hbel⟩
  exact q3p rfl hbel (q06 _)⟩,rfl⟩
end YtapfankgdkdkgaaGreatDoor.AM
end Go.Proofs
